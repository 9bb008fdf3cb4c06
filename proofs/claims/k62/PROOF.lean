import PyProof.Rows.All
import Wide.All
import OpenK.AllK
import Wide.FinOn
import Lean
import PyProof.EqAt
import PyProof.EqKinds
import PyProof.TupleCall
import PySem.Challenge.RW_manyjudges_k62_no_text
set_option compiler.extract_closed false
set_option genSizeOfSpec false
set_option Elab.async false
set_option linter.all false
set_option maxRecDepth 100000
namespace PySem.W.Fast
theorem tw4735473101615589019:True:=trivial
theorem tw17479968486390398535:True:=trivial
theorem tw13957199491783317686:True:=trivial
theorem tw2855600887099627399:True:=trivial
theorem tw303504248490793187:True:=trivial
theorem tw8904255215742937068:True:=trivial
theorem tw14983808096502565128:True:=trivial
theorem tw17772663846622380575:True:=trivial
theorem tw14510631345419220049:True:=trivial
theorem tw14446811546423649727:True:=trivial
theorem tw10405920561986086012:True:=trivial
theorem tw803109628036633099:True:=trivial
theorem tw12569529942108054581:True:=trivial
theorem tw3088673022613603696:True:=trivial
theorem tw13085332271295872242:True:=trivial
theorem tw38469568102454772:True:=trivial
theorem tw16086497868850101574:True:=trivial
theorem tw10977191155989261370:True:=trivial
theorem tw16490124601753647280:True:=trivial
theorem tw6385750181551170998:True:=trivial
theorem tw14797719124347414278:True:=trivial
theorem tw13051961849541924745:True:=trivial
theorem tw17562578155146848136:True:=trivial
theorem tw16796602011712565991:True:=trivial
theorem tw8830261659146723219:True:=trivial
theorem tw6367062538000094186:True:=trivial
theorem tw2785622653818387371:True:=trivial
theorem tw18201217029377413209:True:=trivial
theorem tw13152684292174844934:True:=trivial
theorem tw17118407281623566903:True:=trivial
theorem tw9447940255361064999:True:=trivial
theorem tw15707633693518962229:True:=trivial
theorem tw13585888374911110379:True:=trivial
theorem tw5062085280004430416:True:=trivial
theorem tw10551833091962531482:True:=trivial
theorem tw5065081906392844521:True:=trivial
theorem tw14978051399888455361:True:=trivial
theorem tw6003357575110349422:True:=trivial
theorem tw17771945279289786238:True:=trivial
theorem tw2922155300956854689:True:=trivial
theorem tw7824616487647099734:True:=trivial
theorem tw9102760637181936338:True:=trivial
theorem tw8423654364619937935:True:=trivial
theorem tw5690183015584574043:True:=trivial
theorem tw1231353749116905390:True:=trivial
theorem tw17873792411471930938:True:=trivial
theorem tw12418561385722475827:True:=trivial
theorem tw2479066325927053729:True:=trivial
theorem tw16510751026425937581:True:=trivial
theorem tw626381559195568103:True:=trivial
theorem tw2583946683879713623:True:=trivial
theorem tw13722865574755063410:True:=trivial
theorem tw5413065685132661106:True:=trivial
theorem tw2493407765385744568:True:=trivial
theorem tw10728725511826258162:True:=trivial
theorem tw15131684775809413169:True:=trivial
theorem tw16671483755326070356:True:=trivial
theorem tw4264720495853466809:True:=trivial
theorem tw15533393082368406288:True:=trivial
theorem tw5179615470837029392:True:=trivial
theorem tw3970499335520964878:True:=trivial
theorem tw7186874800976320204:True:=trivial
theorem tw17240923436936572058:True:=trivial
theorem tw982399133539092004:True:=trivial
theorem tw4490223557404486272:True:=trivial
theorem tw2548592233007181042:True:=trivial
theorem tw8377052573134818999:True:=trivial
theorem tw8701986734099005380:True:=trivial
theorem tw13254527362265502578:True:=trivial
theorem tw1385392353079230532:True:=trivial
theorem tw1312899341206675934:True:=trivial
theorem tw13767640264915585276:True:=trivial
theorem tw10407242134985827643:True:=trivial
theorem tw17323080689878441836:True:=trivial
theorem tw5625233764226228214:True:=trivial
theorem tw17880814681603584870:True:=trivial
theorem tw1079834675189196418:True:=trivial
theorem tw1025414632679439029:True:=trivial
theorem tw16831155589107978984:True:=trivial
theorem tw16383483754854839704:True:=trivial
theorem tw11759634977468420217:True:=trivial
theorem tw13527957507026866895:True:=trivial
theorem tw16152049408769101426:True:=trivial
theorem tw8549509266910925983:True:=trivial
theorem tw12003715630793221172:True:=trivial
theorem tw11218564837650074289:True:=trivial
theorem tw15033745767419295636:True:=trivial
theorem tw799309241533142446:True:=trivial
theorem tw9727515502969219711:True:=trivial
theorem tw966718372480165253:True:=trivial
theorem tw18373659174191736088:True:=trivial
theorem tw3700298730069236987:True:=trivial
theorem tw10945782349792289014:True:=trivial
theorem tw5209899950980436421:True:=trivial
theorem tw718957077650731799:True:=trivial
theorem tw726164768568580091:True:=trivial
theorem tw11768573747014273109:True:=trivial
theorem tw11967373045909607246:True:=trivial
theorem tw4893795676200018250:True:=trivial
theorem tw8640333867990436912:True:=trivial
theorem tw6019070169143686695:True:=trivial
theorem tw8381395831147545287:True:=trivial
theorem tw3786474062218706513:True:=trivial
theorem tw9908455562604621066:True:=trivial
theorem tw10505097672689405249:True:=trivial
theorem tw114100314136381960:True:=trivial
theorem tw17723163570005823823:True:=trivial
theorem tw2134649674405672041:True:=trivial
theorem tw9381817619995035496:True:=trivial
theorem tw1121166236848479462:True:=trivial
theorem tw8337303138908196636:True:=trivial
theorem tw3345716141949267119:True:=trivial
theorem tw15020910989681561891:True:=trivial
theorem tw15058852202664139531:True:=trivial
theorem tw8404094109436714534:True:=trivial
theorem tw14605352406070139506:True:=trivial
theorem tw14755708477054362:True:=trivial
theorem tw809269442328796921:True:=trivial
theorem tw17141197572268143262:True:=trivial
theorem tw15572935764270887475:True:=trivial
theorem tw4532745415998650311:True:=trivial
theorem tw146246003464192901:True:=trivial
theorem tw13920871490181752096:True:=trivial
theorem tw4139426370859275139:True:=trivial
theorem tw13186006832746586214:True:=trivial
theorem tw11703299160710018747:True:=trivial
theorem tw18148329287211042847:True:=trivial
theorem tw5899612449009026712:True:=trivial
theorem tw17553959695128453662:True:=trivial
theorem tw13290930801587522278:True:=trivial
theorem tw14042904513928983220:True:=trivial
theorem tw4366210439983361397:True:=trivial
theorem tw12497556372976772531:True:=trivial
theorem tw1010130366837158026:True:=trivial
theorem tw17797754808231484363:True:=trivial
theorem tw15843831456745608927:True:=trivial
theorem tw2414118243444244250:True:=trivial
theorem tw16015393152859207192:True:=trivial
theorem tw17033689354366117462:True:=trivial
theorem tw4766336885787771950:True:=trivial
theorem tw947564269206705053:True:=trivial
theorem tw17009151660197950280:True:=trivial
theorem tw3520031926479360583:True:=trivial
theorem tw1551848048271537410:True:=trivial
theorem tw14895098585573703462:True:=trivial
theorem tw11067935945080606185:True:=trivial
theorem tw17851785506071698995:True:=trivial
theorem tw11289929219785413717:True:=trivial
theorem tw14202374797746732466:True:=trivial
theorem tw482622560593981625:True:=trivial
theorem tw2622376730431118639:True:=trivial
theorem tw13370143873419136472:True:=trivial
theorem tw17646762349404027725:True:=trivial
theorem tw11325897563057922109:True:=trivial
theorem tw13386677926883535748:True:=trivial
theorem tw10832680934585298661:True:=trivial
theorem tw3803774081285407571:True:=trivial
theorem tw2739525292821189570:True:=trivial
theorem tw1672896728843142228:True:=trivial
theorem tw10577752852874802269:True:=trivial
end PySem.W.Fast
section
open PySem
def zZ:=@PySem.wpAny_bind
def zY:=@PySem.Heap.get?_push_of_some
def zX:=@List.mem_singleton
def zW:=@PySem.wpAny_pure
def zV:=@List.length_map
def zU:=@PySem.Heap.lt_size
def zT:=@Nat.le_refl
def zS:=@PySem.Heap.get?_push_size
def zR:=@List.getElem?_eq_some_iff
def zQ:=@List.mem_append_right
def zP:=@Array.toList_append
def zO:=@List.mem_cons_of_mem
def zN:=@List.size_toArray
def zM:=@if_neg
def zL:=@List.mem_cons
def zK:=@List.mem_append
def zJ:=@List.append_assoc
def zI:=@decide_eq_true
def zH:=@Bool.false_ne_true
def zG:=@if_pos
def zF:=@of_decide_eq_true
def zE:=@List.length_append
def zD:=@List.mem_cons_self
def zC:=@Nat.ne_of_lt
def zB:=@List.mem_of_getElem?
def zA:=@Nat.lt_of_lt_of_le
def yZ:=@PySem.sizeLine_eq
def yY:=@Bool.and_eq_true
def yX:=@PySem.Str.cps_append
def yW:=@List.mem_map
def yV:=@decide_eq_false
def yU:=@List.mem_append_left
def yT:=@Option.some.inj
def yS:=@List.all_eq_true
def yR:=@PySem.Heap.get?_update_other
def yQ:=@Nat.le_trans
def yP:=@List.isPrefixOf_iff_prefix
def yO:=@W.mg_none_of
def yN:=@PySem.wpAny_mono
def yM:=@List.map_append
def yL:=@List.length_cons
def yK:=@List.getD_eq_getElem?_getD
def yJ:=@Nat.zero_le
def yI:=@List.getElem?_map
def yH:=@List.mem_map_of_mem
def yG:=@List.getElem?_eq_getElem
def yF:=@PySem.wpAny_field
def yE:=@PySem.wpAny_newObj_type
def yD:=@Array.getElem?_eq_some_iff
def yC:=@PySem.Heap.get?_update_self
def yB:=@List.filterMap_cons
def yA:=@W.mg_of
def xZ:=@List.pairwise_iff_getElem
def xY:=@List.length_drop
def xX:=@PySem.wpAny_call_entry
def xW:=@List.take_length
def xV:=@PySem.PassesOwn.never
def xU:=@List.take_add_one
def xT:=@List.map_map
def xS:=@PyProof.Rows.slot_tuple_getitem
def xR:=@beq_eq_false_iff_ne
def xQ:=@Array.length_toList
def xP:=@List.takeWhile_cons
def xO:=@Nat.le_of_lt
def xN:=@W.kia_one
def xM:=@PySem.wpAny_callSpecial?_slot
def xL:=@List.mem_range
def xK:=@PySem.Heap.size_push
def xI:=@PySem.wpAny_setState_of
def xH:=@congrArg
def xG:=@Classical.byContradiction
def xF:=@Nat.lt_succ_self
def xE:=@Array.toList_inj
def xD:=@PySem.wpAny_holding
def xC:=@PyProof.Rows.callWith_type1
def xB:=@PySem.wpAny_loadPart_at
def xA:=@PySem.wpAny_Call_Name_kw
def wZ:=@Int.emod_lt_of_pos
def wY:=@Nat.lt_irrefl
def wX:=@List.any_eq_true
def wW:=@List.getElem?_append_left
def wV:=@PySem.mem_of_lookup
def wU:=@Ne.symm
def wT:=@F.called_set
def wS:=@PySem.Obj.data_mapFields
def wR:=@Int.toNat_natCast
def wQ:=@PySem.wpAny_seqItems
def wP:=@Int.emod_nonneg
def wO:=@PyProof.Rows.KeyOrd.kle_refl
def wN:=@PySem.wpAny_pyIter_tuple
def wM:=@beq_iff_eq
def wL:=@List.drop_zero
def wK:=@Nat.le_succ
def wJ:=@PySem.wpAny_truthy_bool
def wI:=@PySem.wpAny_execs_nil
def wH:=@List.length_nil
def wG:=@PyProof.Rows.F.plain_set_update_loop
def wF:=@Nat.ne_of_gt
def wE:=@Nat.lt_or_ge
def wD:=@List.length_take
def wC:=@List.getElem_mem
def wB:=@List.getElem?_append_right
def wA:=@F.slot_tuple_iterator_next
def vZ:=@W.callWith_K
def vY:=@PySem.wpAny_setField_rec
def vX:=@PySem.Obj.isFreed_of_fields
def vW:=@PySem.StrLaws.glued_eq_join
def vV:=@PySem.wpAny_passesOwn
def vU:=@PySem.wpAny_loadPart'
def vT:=@PySem.Heap.get?_none_of_le
def vS:=@PySem.Around.under_plainId
def vR:=@PySem.wpAny_pyIter_list
def vQ:=@Nat.lt_succ_of_lt
def vP:=@PySem.codeAny_mono
def vO:=@List.getElem?_take_of_lt
def vN:=@List.Pairwise.imp_of_mem
def vM:=@F.slot_list_extend
def vL:=@List.getElem_of_mem
def vK:=@List.length_eq_zero_iff
def vJ:=@PySem.wpAny_askSetting
def vI:=@List.eq_nil_of_length_eq_zero
def vH:=@PySem.wpAny_Call_method_late
def vG:=@Calls.callWith_builtin
def vF:=@List.pairwise_cons
def vE:=@PySem.Code.quiet_builtin
def vD:=@List.getElem?_drop
def vC:=@Bool.eq_iff_iff
def vB:=@List.nodup_cons
def vA:=@Bool.or_eq_true
def uZ:=@PySem.codeAny_builtin
def uY:=@List.length_replicate
def uX:=@List.length_singleton
def uW:=@List.getElem?_eq_none
def uV:=@F.slot_zip_next
def uU:=@List.takeWhile_prefix
def uT:=@List.pairwise_map
def uS:=@Calls.evalArgs_plain
def uR:=@List.mem_of_mem_drop
def uQ:=@PySem.codeAny_call_builtin
def uP:=@Bool.and_false
def uO:=@PySem.typeIs_str
def uN:=@List.lookup_cons
def uM:=@List.ext_getElem
def uL:=@List.not_mem_nil
def uK:=@PyProof.Rows.KeyOrd.kle_trans
def uJ:=@beq_self_eq_true
def uI:=@Nat.le_add_right
def uH:=@Nat.le_of_eq
def uG:=@PySem.wpAny_typeOf
def uF:=@Nat.succ_pos
def uE:=@Array.getElem?_eq_getElem
def uD:=@PySem.wpAny_isSubtype_exc
def uC:=@Option.isSome_iff_exists
def uB:=@F.args_tuple_add_2
def uA:=@F.type_list_extend
def tZ:=@F.slot_list_append
def tY:=@F.type_list_append
def tX:=@List.nil_append
def tW:=@List.set_cons_succ
def tV:=@List.set_cons_zero
def tU:=@PySem.wpAny_call
def tT:=@Nat.not_lt
def tS:=@F.entry_tuple_add
def tR:=@List.getElem?_set_self
def tQ:=@F.slot_tuple_add
def tP:=@F.plainAttrs_str
def tN:=@Calls.spliced_nil
def tM:=@Nat.lt_trichotomy
def tL:=@List.length_range
def tK:=@PyProof.Rows.KeyOrd.kle_of_klt
def tJ:=@Array.size_append
def tH:=@Bool.false_and
def tG:=@PySem.wpAny_setField
def tF:=@PySem.wpAny_execs_cons
def tE:=@Nat.succ_le_succ
def tD:=@List.cons_append
def tB:=@PySem.wpAny_rule
def sZ:=@PySem.plainId_quiet
def sY:=@Nat.lt_trans
def sX:=@Nat.zero_add
end
namespace L2
open PySem PySem.Spec PyProof.Rows
abbrev Key:=Sum Int Str
def bx:Key->Value->Bool
 | .inl k,v=>Value.isInt k v
 | .inr x,v=>Value.isStrOf x v
def A5(w:World):Key->Int
 | .inl k=>hashInt k
 | .inr x=>hashStr w x
theorem yh:∀{k:Key}{v:Value},bx k v=true->(∃i t,k=Sum.inl i/\v=Value.int i t)\/(∃x t,k=Sum.inr x/\v=Value.str x t)
 | .inl i,v,h=>by
  obtain⟨t,e⟩:=Value.isInt_shape (k:=i) (v:=v) h;exact .inl ⟨i,t,rfl,e⟩
 | .inr x,v,h=>by
  obtain⟨t,e⟩:=Value.isStrOf_shape (x:=x) (v:=v) h;exact .inr ⟨x,t,rfl,e⟩
theorem Sr(i:Int)(t:Tok):bx (.inl i) (.int i t)=true:=by simp[bx,Value.isInt]
theorem Ss(x:Str)(t:Tok):bx (.inr x) (.str x t)=true:=by simp[bx,Value.isStrOf]
theorem Hf(a b:Int):decide ((Sum.inl a:Key)=Sum.inl b)=(a==b):=by
 by_cases e:a=b
 ·subst e;simp
 ·have h:¬(Sum.inl a:Key)=Sum.inl b:=λq=>e (Sum.inl.inj q);rw[yV h];exact(xR.mpr e).symm
theorem Hi(a b:Str):decide ((Sum.inr a:Key)=Sum.inr b)=decide (a=b):=by
 by_cases e:a=b
 ·subst e;simp
 ·have h:¬(Sum.inr a:Key)=Sum.inr b:=λq=>e (Sum.inr.inj q);rw[yV h,yV e]
theorem Hg(a:Int)(b:Str):decide ((Sum.inl a:Key)=Sum.inr b)=false:=yV (λq=>nomatch q)
theorem Hh(a:Str)(b:Int):decide ((Sum.inr a:Key)=Sum.inl b)=false:=yV (λq=>nomatch q)
def uz(prog:Program)(w:World):PySem.KeyKind prog w Key where
 is:=bx
 hash:=A5 w
 inj:=λv a b ha hb=>by
  rcases yh ha with⟨i,t,rfl,rfl⟩|⟨x,t,rfl,rfl⟩
  ·rcases yh hb with⟨j,u,rfl,e⟩|⟨y,u,rfl,e⟩
   ·injection e with e1 _;rw[e1]
   ·exact nomatch e
  ·rcases yh hb with⟨j,u,rfl,e⟩|⟨y,u,rfl,e⟩
   ·exact nomatch e
   ·injection e with e1 _;rw[e1]
 byValue:=λk v h=>by
  rcases yh h with⟨i,t,rfl,rfl⟩|⟨x,t,rfl,rfl⟩<;>rfl
 pyHash:=λhv h=>by
  rcases yh hv with⟨i,t,rfl,rfl⟩|⟨x,t,rfl,rfl⟩
  ·exact wpAny_pyHash_int h
  ·exact wpAny_pyHash_str h
 eqBool:=λhu hv h=>by
  rcases yh hu with⟨i,t,rfl,rfl⟩|⟨x,t,rfl,rfl⟩
  ·rcases yh hv with⟨j,u,rfl,rfl⟩|⟨y,u,rfl,rfl⟩
   ·rw[Hf]at h;exact wpAny_eqBool_int h
   ·rw[Hg]at h;exact SeqAt.EqAt.int_str i t y u _ _ _ _ h
  ·rcases yh hv with⟨j,u,rfl,rfl⟩|⟨y,u,rfl,rfl⟩
   ·rw[Hh]at h;exact SeqAt.EqAt.str_int x t j u _ _ _ _ h
   ·rw[Hi]at h;exact wpAny_eqBool_str h
 «strs»:=λk x t v h=>by
  rcases yh h with⟨i,u,rfl,e⟩|⟨y,u,rfl,e⟩
  ·exact nomatch e
  ·injection e with e1 _;subst e1;cases v<;>rfl
theorem Y1(prog:Program)(w:World)(i:Int)(t:Tok):(uz prog w).is (.inl i) (.int i t)=true:=Sr i t
theorem wc(prog:Program)(w:World)(x:Str)(t:Tok):(uz prog w).is (.inr x) (.str x t)=true:=Ss x t
end L2
namespace L2
open PySem PySem.Spec PyProof.Rows
inductive V where
 |non|bl (b:Bool)|int (i:Int)|str (x:Str)|byt (b:Array UInt8)|flt (b:UInt64)|ref (a:Addr)|ty (n:String)
 deriving DecidableEq
def RelV:V->Value->Prop
 | .non,u=>u=Value.none
 | .bl b,u=>u=Value.bool b
 | .int i,u=>∃t,u=Value.int i t
 | .str x,u=>∃t,u=Value.str x t
 | .byt b,u=>∃t,u=Value.bytes b t
 | .flt b,u=>∃t,u=Value.float b t
 | .ref a,u=>u=Value.ref a
 | .ty n,u=>u=Value.type n
abbrev Vals:List V->List Value->Prop:=Paired RelV
theorem Vals.length{xs:List V}{us:List Value}(r:Vals xs us):xs.length=us.length:=Paired.length r
theorem Vals.get:∀{xs:List V}{us:List Value}{i:Nat}{x:V},Vals xs us->xs[i]?=some x->∃u,us[i]?=some u/\RelV x u
 |_,_,_,_,.nil,e=>by simp at e
 |_,_,0,_,.cons r _,e=>by simp at e;subst e;exact⟨_,rfl,r⟩
 |_,_,i+1,x,.cons _ t,e=>by
  obtain⟨u,h1,h2⟩:=Vals.get (i:=i) (x:=x) t (by simpa using e);exact⟨u,by simpa using h1,h2⟩
theorem Vals.append:∀{xs ys:List V}{us ws:List Value},Vals xs us->Vals ys ws->Vals (xs++ys) (us++ws)
 |_,_,_,_,.nil,s=>s
 |_,_,_,_,.cons r t,s=>.cons r (Vals.append t s)
theorem Vals.take:∀{xs:List V}{us:List Value}(n:Nat),Vals xs us->Vals (xs.take n) (us.take n)
 |_,_,0,_=>.nil
 |_,_,_+1,.nil=>.nil
 |_,_,n+1,.cons r t=>.cons r (Vals.take n t)
theorem Vals.drop:∀{xs:List V}{us:List Value}(n:Nat),Vals xs us->Vals (xs.drop n) (us.drop n)
 |_,_,0,r=>r
 |_,_,_+1,.nil=>.nil
 |_,_,n+1,.cons _ t=>Vals.drop n t
def RelO:Option V->Option Value->Prop
 |some v,some u=>RelV v u
 |none,none=>True
 |_,_=>False
def KV{κ:Type}:List (κ×V)->List (κ×Value)->Prop:=Paired λ(p:κ×V)(q:κ×Value)=>p.1=q.1/\RelV p.2 q.2
def kV:Key->V
 | .inl i=>.int i
 | .inr x=>.str x
inductive HO where
 |lst (xs:List V)
 |tup (xs:List V)
 |dK (kvs:List (Key×V))|dT (kvs:List (List Key×V))
 |set (S:Int->Bool) (n:Nat)
 |ins (C dx:Addr) (fs:List (Str×V))
 |own (x:Addr)
 |xd (fs:List (Str×V))
 |met (f x:Addr)
 |rng (lo hi:Int)
 |frz (o:Obj) (u:HO)
 |tbl (ps:Array Value)
 |ext (φ:Heap->Prop)
abbrev Hp:=Addr->Option HO
def upd(H:Hp)(a:Addr)(o:HO):Hp:=λb=>if b=a then some o else H b
theorem zu{H:Hp}{a:Addr}{o:HO}:upd H a o a=some o:=by unfold upd;rw[zG rfl]
theorem zj{H:Hp}{a b:Addr}{o:HO}(h:b≠a):upd H a o b=H b:=by unfold upd;rw[zM h]
theorem wo{H:Hp}{a b:Addr}{o:HO}(h:H a=some o)(h':H b=none):a≠b:=by
 intro e;subst e;rw[h]at h';cases h'
section
variable (P:Program) (w:World)
def ObjOk(H:Hp)(h:Heap)(a:Addr):HO->Prop
 | .lst xs=>xs.length<=sizeLine/\∃(aJ:List Value)(n:Nat),Vals xs aJ/\h.get? a=some { cls:=.type "list",data:=.seq aJ.toArray n }
 | .tup xs=>xs.length<=sizeLine/\∃aJ:List Value,Vals xs aJ/\IsTup h a aJ.toArray
 | .dK kvs=>kvs.length<=sizeLine/\(a==sysModules)=false/\∃vs,KV kvs vs/\h.DictOf (uz P w) a vs
 | .dT kvs=>kvs.length<=sizeLine/\(a==sysModules)=false/\∃xs:List (List Key×Addr×Value),
   Paired (λ(p:List Key×V)(q:List Key×Addr×Value)=>p.1=q.1/\H q.2.1=some (.tup (p.1.map kV))/\RelV p.2 q.2.2) kvs xs /\
   ∃o es ep,h.get? a=some o/\o.ExactDict/\o.data = .dict es ep/\es.toList=xs.map (entryOfKey (tupleKind (uz P w)))/\(xs.map (·.1)).Nodup
 | .set S n=>h.SetOf (intKind P w) a S n
 | .ins C dx fs=>H dx=some (.own a)/\fs.length<=1000/\dx≠a/\h.get? a=some (W.instObj C dx) /\
   ∃mA,h.Ns1 dx mA/\(∀f,RelO (fs.lookup f) (mA f))/\PySem.Within mA (fs.map (·.1))
 | .own _=>∃o,h.get? a=some o
 | .xd fs=>∃mA,h.Ns1 a mA/\∀f,RelO (fs.lookup f) (mA f)
 | .rng lo hi=>∃t u v,h.get? a=some { cls:=.type "range",data:=.fields #[.int lo t,.int hi u,.int 1 v] }
 | .frz o u=>h.get? a=some o/\ObjOk H h a u
 | .tbl ps=>h.get? a=some { cls:=.none,data:=.fields ps }
 | .met f x=>h.get? a=some (W.methodObj (.ref f) (.ref x))
 | .ext φ=>φ h/\(∃o,h.get? a=some o)/\∀h1 h2:Heap,φ h1->(∀o,h1.get? a=some o->h2.get? a=some o)->φ h2
def HOk(H:Hp)(h:Heap):Prop:=∀a o,H a=some o->ObjOk P w H h a o
end
section
variable {P:Program}{w:World}{H H':Hp}{h h':Heap}{a:Addr}{o:HO}
theorem ObjOk.lt(x:ObjOk P w H h a o):a<h.objs.size:=by
 cases o with
 |lst xs=>obtain⟨_,_,_,_,e⟩:=x;exact zU e
 |tup xs=>obtain⟨_,_,_,p⟩:=x;exact p.lt
 |dK kvs=>obtain⟨_,_,_,_,o,_,_,e,_⟩:=x;exact zU e
 |dT kvs=>obtain⟨_,_,_,_,o,_,_,e,_⟩:=x;exact zU e
 |set S n=>obtain⟨o,_,_,_,e,_⟩:=x;exact zU e
 |ins C dx fs=>obtain⟨_,_,_,e,_⟩:=x;exact zU e
 |own y=>obtain⟨_,e⟩:=x;exact zU e
 |xd fs=>obtain⟨_,⟨_,_,_,e,_⟩,_⟩:=x;exact zU e
 |rng lo hi=>obtain⟨_,_,_,e⟩:=x;exact zU e
 |frz ob u=>obtain⟨e,_⟩:=x;exact zU e
 |tbl ps=>exact zU (show h.get? a=some _ from x)
 |met f y=>exact zU (show h.get? a=some _ from x)
 |ext φ=>obtain⟨_,⟨_,e⟩,_⟩:=x;exact zU e
theorem Paired.mapP{α β:Type}{F G:α->β->Prop}:∀{l₁:List α}{l₂:List β},Paired F l₁ l₂->(∀a b,F a b->G a b)->Paired G l₁ l₂
 |_,_,.nil,_=>.nil
 |_,_,.cons r t,f=>.cons (f _ _ r) (Paired.mapP t f)
theorem ObjOk.stay(x:ObjOk P w H h a o)(k:∀b u,(b=a\/H b=some (.own a))->h.get? b=some u->h'.get? b=some u)
  (ho:∀b,H b=some (.own a)->H' b=some (.own a)) (ht:∀b xs,H b=some (.tup xs)->H' b=some (.tup xs)):ObjOk P w H' h' a o:=by
 induction o with
 |lst xs=>obtain⟨z,aJ,n,r,e⟩:=x;exact⟨z,aJ,n,r,k _ _ (.inl rfl) e⟩
 |tup xs=>obtain⟨z,aJ,r,ob,e,c⟩:=x;exact⟨z,aJ,r,ob,k _ _ (.inl rfl) e,c⟩
 |dK kvs=>obtain⟨z,y,vs,r,ob,es,ep,e,c⟩:=x;exact⟨z,y,vs,r,ob,es,ep,k _ _ (.inl rfl) e,c⟩
 |dT kvs =>
  obtain⟨z,y,xs,r,ob,es,ep,e,c⟩:=x;exact⟨z,y,xs,Paired.mapP r λp q z=>⟨z.1,ht _ _ z.2.1,z.2.2⟩,ob,es,ep,k _ _ (.inl rfl) e,c⟩
 |set S n=>obtain⟨ob,es,ep,t,e,c⟩:=x;exact⟨ob,es,ep,t,k _ _ (.inl rfl) e,c⟩
 |ins C dx fs =>
  obtain⟨d,z,ne,e,mA,⟨od,es,ep,e2,c⟩,r⟩:=x;exact⟨ho _ d,z,ne,k _ _ (.inl rfl) e,mA,⟨od,es,ep,k _ _ (.inr d) e2,c⟩,r⟩
 |own y=>obtain⟨ob,e⟩:=x;exact⟨ob,k _ _ (.inl rfl) e⟩
 |xd fs=>obtain⟨mA,⟨od,es,ep,e,c⟩,r⟩:=x;exact⟨mA,⟨od,es,ep,k _ _ (.inl rfl) e,c⟩,r⟩
 |rng lo hi=>obtain⟨t,u,v,e⟩:=x;exact⟨t,u,v,k _ _ (.inl rfl) e⟩
 |frz ob u ih=>obtain⟨e,q⟩:=x;exact⟨k _ _ (.inl rfl) e,ih q⟩
 |tbl ps =>
  have e:h.get? a=some { cls:=.none,data:=.fields ps }:=x;show h'.get? a=some { cls:=.none,data:=.fields ps };exact k a _ (.inl rfl) e
 |met f y =>
  have e:h.get? a=some (W.methodObj (.ref f) (.ref y)):=x;show h'.get? a=some (W.methodObj (.ref f) (.ref y));exact k a _ (.inl rfl) e
 |ext φ=>obtain⟨p,⟨o,e⟩,st⟩:=x;exact⟨st _ _ p λo q=>k _ _ (.inl rfl) q,⟨o,k _ _ (.inl rfl) e⟩,st⟩
theorem HOk.lt(x:HOk P w H h)(e:H a=some o):a<h.objs.size:=(x a o e).lt
theorem HOk.fresh(x:HOk P w H h)(e:h.objs.size<=a):H a=none:=by
 cases q:H a with
 |none=>rfl
 |some u=>exact absurd (zA (x.lt q) e) (wY _)
theorem HOk.kept(x:HOk P w H h)(k:∀b u,h.get? b=some u->h'.get? b=some u):HOk P w H h':=λa o e =>
 (x a o e).stay (λb u _ q=>k b u q) (λ_ q=>q) λ_ _ q=>q
theorem HOk.laid(x:HOk P w H h)(k:∀b u,h.get? b=some u->h'.get? b=some u)(hp:h.objs.size<=a)(new:ObjOk P w (upd H a o) h' a o):HOk P w (upd H a o) h':=λb u e=>by
 have hn:=x.fresh hp
 by_cases hb:b=a
 ·subst hb;rw[zu]at e;cases e;exact new
 ·rw[zj hb]at e;exact(x b u e).stay (λc v _ q=>k c v q) (λc q=>by rw[zj (wo q hn)];exact q) λc xs q=>by rw[zj (wo q hn)];exact q
end
def Rd(H:Hp)(a:Addr)(u:HO):Prop:=H a=some u\/∃o,H a=some (.frz o u)
theorem Rd.ok{P:Program}{w:World}{H:Hp}{h:Heap}{a:Addr}{u:HO}(r:Rd H a u)(x:HOk P w H h):ObjOk P w H h a u:=by
 rcases r with r|⟨o,r⟩
 ·exact x a u r
 ·obtain⟨_,q⟩:=x a _ r;exact q
def Mut:Option HO->Prop
 |some (.lst _)=>True
 |some (.dK _)=>True
 |some (.dT _)=>True
 |some (.set _ _)=>True
 |some (.ins _ _ _)=>True
 |some (.ext _)=>True
 |_=>False
section
variable {P:Program}{w:World}{H:Hp}{h h':Heap}{x e:Addr}{o':HO}
theorem HOk.write(ok:HOk P w H h)(mu:Mut (H x))(he:e=x\/H e=some (.own x))(k:∀b u,b≠e->h.get? b=some u->h'.get? b=some u)(JY:∃u,h'.get? e=some u)
  (new:ObjOk P w (upd H x o') h' x o'):HOk P w (upd H x o') h':=λb u q=>by
 have PU:∀c y,H c=some (.own y)->c≠x:=λc y r z=>by subst z;rw[r]at mu;exact mu
 have ntup:∀c xs,H c=some (.tup xs)->c≠x:=λc xs r z=>by subst z;rw[r]at mu;exact mu
 by_cases hb:b=x
 ·subst hb;rw[zu]at q;cases q;exact new
 ·rw[zj hb]at q
  by_cases AR:b=e
  ·have q':H b=some (.own x):=by
    rcases he with z|z
    ·exact absurd (AR.trans z) hb
    ·rw[AR];exact z
   rw[q]at q';cases q';obtain⟨v,hv⟩:=JY;exact⟨v,by rw[AR];exact hv⟩
  ·refine(ok b u q).stay (λc v hc r=>k c v ?_ r) (λc r=>by rw[zj (PU c b r)];exact r) λc xs r=>by rw[zj (ntup c xs r)];exact r
   rcases hc with rfl|hc
   ·exact AR
   ·rintro rfl;rcases he with z|z
    ·exact PU c b hc z
    ·rw[hc]at z;cases z;exact hb rfl
end
structure Un(fs ex:List Addr)(H H':Hp)(h h':Heap):Prop where
 keep:∀b o,h.get? b=some o->H b=none->b∉fs->b∉ex->h'.get? b=some o
 slot:∀b o,h.get? b=some o->H b=none->b∈fs->b∉ex->∃sl,h'.get? b=some { o with slots:=sl }
 free:∀b o,h.get? b=some o->H b=none->b∉ex->H' b=none
 there:∀b o,h.get? b=some o->b∉ex->∃o',h'.get? b=some o'
 tups:∀b xs,H b=some (.tup xs)->H' b=some (.tup xs)
 frzs:∀b o u,H b=some (.frz o u)->H' b=some (.frz o u)
 tbls:∀b ps,H b=some (.tbl ps)->∃more,H' b=some (.tbl (ps++more))
section
variable {fs fs' ex ex':List Addr}{H H1 H2:Hp}{h h1 h2 h':Heap}{a x e:Addr}{o:HO}
theorem Un.any(u:Un fs ex H H1 h h1){b:Addr}{ob:Obj}(q:h.get? b=some ob)(n:H b=none)(hx:b∉ex):∃sl,h1.get? b=some { ob with slots:=sl }:=by
 by_cases hb:b∈fs
 ·exact u.slot b ob q n hb hx
 ·exact⟨ob.slots,u.keep b ob q n hb hx⟩
theorem Un.trans(a:Un fs ex H H1 h h1)(b:Un fs ex H1 H2 h1 h2):Un fs ex H H2 h h2 where
 keep:=λc ob q n hc hx=>b.keep c ob (a.keep c ob q n hc hx) (a.free c ob q n hx) hc hx
 slot:=λc ob q n hc hx=>by
  obtain⟨sl,e1⟩:=a.slot c ob q n hc hx;obtain⟨LZ,e2⟩:=b.slot c _ e1 (a.free c ob q n hx) hc hx;exact⟨LZ,e2⟩
 free:=λc ob q n hx=>by
  obtain⟨o',e1⟩:=a.there c ob q hx;exact b.free c o' e1 (a.free c ob q n hx) hx
 there:=λc ob q hx=>by
  obtain⟨o',e1⟩:=a.there c ob q hx;exact b.there c o' e1 hx
 tups:=λc xs q=>b.tups c xs (a.tups c xs q)
 frzs:=λc ob xs q=>b.frzs c ob xs (a.frzs c ob xs q)
 tbls:=λc ps q=>by
  obtain⟨m1,e1⟩:=a.tbls c ps q;obtain⟨m2,e2⟩:=b.tbls c _ e1;exact⟨m1++m2,by rw[e2,Array.append_assoc]⟩
theorem Un.kept(k:∀b u,h.get? b=some u->h'.get? b=some u):Un fs ex H H h h' :=
 ⟨λb ob q _ _ _=>k b ob q,λb ob q _ _ _=>⟨ob.slots,k b ob q⟩,λ_ _ _ n _=>n,λb ob q _=>⟨ob,k b ob q⟩,λ_ _ q=>q,λ_ _ _ q=>q,λ_ ps q=>⟨#[],by rw[q];simp⟩⟩
theorem Un.refl:Un fs ex H H h h:=Un.kept λ_ _ q=>q
theorem Un.laid(k:∀b u,h.get? b=some u->h'.get? b=some u)(hp:h.objs.size<=a)(hn:H a=none):Un fs ex H (upd H a o) h h' where
 keep:=λb u q _ _ _=>k b u q
 slot:=λb u q _ _ _=>⟨u.slots,k b u q⟩
 free:=λb u q n _=>by rw[zj (zC (zA (zU q) hp))];exact n
 there:=λb u q _=>⟨u,k b u q⟩
 tups:=λb xs q=>by rw[zj (wo q hn)];exact q
 frzs:=λb u xs q=>by rw[zj (wo q hn)];exact q
 tbls:=λb ps q=>⟨#[],by rw[zj (wo q hn),q];simp⟩
theorem Un.write(mu:Mut (H x))(he:e=x\/H e=some (.own x))(k:∀b u,b≠e->h.get? b=some u->h'.get? b=some u)(JY:∃u,h'.get? e=some u):Un fs ex H (upd H x o) h h':=by
 have hx:∀b,H b=none->b≠x:=λb n z=>by subst z;rw[n]at mu;exact mu
 have hb:∀b,H b=none->b≠e:=λb n z=>by
  subst z;rcases he with r|r
  ·exact hx b n r
  ·rw[n]at r;cases r
 have hm:∀b u,H b=some u->¬Mut (some u)->b≠x:=λb u q nm z=>by subst z;rw[q]at mu;exact nm mu
 refine⟨λb u q n _ _=>k b u (hb b n) q,λb u q n _ _=>⟨u.slots,k b u (hb b n) q⟩,λb u q n _=>by rw[zj (hx b n)];exact n,λb u q _=>?_,
  λb xs q=>by rw[zj (hm b _ q λz=>z)];exact q,λb u xs q=>by rw[zj (hm b _ q λz=>z)];exact q,λb ps q=>⟨#[],by rw[zj (hm b _ q λz=>z),q];simp⟩⟩
 by_cases AR:b=e
 ·subst AR;exact JY
 ·exact⟨u,k b u AR q⟩
end
def trk(h:Heap)(H:Hp):List Addr:=(List.range h.objs.size).filter λa=>(H a).isSome
def Z5(h:Heap)(H:Hp):Heap:=W.hideAll h (trk h H)
theorem Sl(h:Heap)(H:Hp):(Z5 h H).objs.size=h.objs.size:=W.hideAll_size _ _
theorem Oq{h:Heap}{H:Hp}{b:Addr}{o:Obj}(e:h.get? b=some o)(n:H b=none):(Z5 h H).get? b=some o :=
 W.hideAll_get _ e λhm=>by
  have q:(H b).isSome=true:=(List.mem_filter.mp hm).2;rw[n]at q;simp at q
theorem L6{h:Heap}{H:Hp}{b:Addr}{o:Obj}(e:(Z5 h H).get? b=some o):h.get? b=some o/\H b=none:=by
 have e':h.get? b=some o:=W.of_hideAll (trk h H) e;refine⟨e',?_⟩;cases q:H b with
 |none=>rfl
 |some x =>
  have hm:b∈trk h H:=List.mem_filter.mpr ⟨xL.mpr (zU e'),by simp[q]⟩;have z:(Z5 h H).get? b=none:=W.hideAll_none (trk h H) hm;rw[z]at e;cases e
def La(g h:Heap)(L:Addr):List (Addr×Obj):=(List.range h.objs.size).filterMap λa=>if a=L\/(g.get? a).isSome=true then none else(h.get? a).map λo=>(a,o)
def rest(g h:Heap)(L d:Addr):List (Addr×Obj):=(La g h L).filter λp=>decide (p.1≠d)
end L2
namespace L2
open PySem PySem.Spec PyProof.Rows
structure Mod(K:W.Frag)(mg:Str->Option Value)(base:Heap):Prop where
 kin:K.In base
 glob:base.Ns mainGlobals mg
 blt:∃mb,base.Ns builtinsNs mb/\∀x:Str,x≠"__name__"->mb x=bootBuiltins x
 nolimit:base.NoLimit
structure Cx where
 prog:Program
 w:World
 K:W.Frag
 mg:Str->Option Value
 base:Heap
 A:Around
 N:List Str
 s₀:Shared
 H₀:Hp
 env:Env
 outer:List Env
 stack:List Env
 ex:List Addr
 fn:Str->Bool
 calm:Bool
 pn:List (Addr×Obj)
 xe:Value->Shared->Prop
def frs(l:List Env):List Addr:=l.filterMap (·.frame)
abbrev Cx.fs(X:Cx):List Addr:=frs X.outer
def Vis(sc:Scope)(x:Str):Prop:=sc.names.lookup x=some .local\/sc.names.lookup x=some .cell\/sc.names.lookup x=some .free
def Loc(sc:Scope)(x:Str):Prop:=sc.names.lookup x=some .local\/sc.names.lookup x=some .cell
def Ai(env:Env)(h:Heap)(m:Str->Option Value)(x:Str)(u:Value):Prop :=
 (env.kindOf x=some .local/\m x=some u)\/((env.kindOf x=some .cell\/env.kindOf x=some .free)/\∃c,env.cells.lookup x=some c/\h.IsCell c (some u))
structure Cx.Ok(X:Cx):Prop where
 mod:Mod X.K X.mg X.base
 kind:X.env.scope.kind = .function
 glob:X.env.globals=mainGlobals
 blt:X.env.builtins=builtinsNs
 above:X.s₀.heap.objs.size<=X.env.locals
 inj:∀x y c,X.env.cells.lookup x=some c->X.env.cells.lookup y=some c->x=y
 has:∀x,(X.env.kindOf x=some .cell\/X.env.kindOf x=some .free)->∃c,X.env.cells.lookup x=some c
 cab:∀x c,X.fn x=true->X.env.cells.lookup x=some c->X.s₀.heap.objs.size<=c
 hd:X.calm=true->X.A.handled=none
 frames:X.A.frames=some X.stack
 stk:X.stack=X.outer\/(X.stack=X.env::X.outer/\X.env.frame=some X.env.locals)
 exf:∀b∈X.ex,b≠X.env.locals/\∀x c,X.env.cells.lookup x=some c->c≠b
 bs:∀b o,X.base.get? b=some o->X.s₀.heap.get? b=some o/\X.H₀ b=none
 bsz:X.base.objs.size<=X.s₀.heap.objs.size
 noex:∀b o,X.base.get? b=some o->b∉X.ex
 exfs:∀b∈X.ex,b∉X.fs
 funs:X.s₀.heap.FunFrames X.base X.outer
 frf:∀b∈X.fs,X.H₀ b=none
structure Inv(X:Cx)(pins:List (Addr×Obj))(σ:List (Option V))(H:Hp)(s:Shared):Prop where
 ok:X.Ok
 os:s.os=X.s₀.os
 bare:AllBare s.gens
 base:Un X.fs X.ex X.H₀ H X.s₀.heap s.heap
 loc:∃m,s.heap.Ns X.env.locals m/\∀(i:Nat)(x:Str)(v:V),X.N[i]?=some x->σ[i]?=some (some v)->Vis X.env.scope x->∃u,RelV v u/\Ai X.env s.heap m x u
 cell:∀x c,X.env.cells.lookup x=some c->∃v,s.heap.IsCell c v
 free:H X.env.locals=none
 freeC:∀x c,X.env.cells.lookup x=some c->H c=none
 pin:∀p∈X.pn++pins,s.heap.get? p.1=some p.2/\H p.1=none/\p.1≠X.env.locals/\p.1∉X.fs/\∀v,p.2.data≠.cell v
 hok:HOk X.prog X.w H s.heap
 len:σ.length=X.N.length
section
variable {X:Cx}{pins:List (Addr×Obj)}{σ:List (Option V)}{H H':Hp}{s:Shared}{h':Heap}
theorem Cx.Ok.nofr(ok:X.Ok){b:Addr}{o:Obj}(e:X.base.get? b=some o):b∉X.fs:=λhb=>by
 have:=(ok.funs.mem hb).1;rw[e]at this;cases this
theorem Inv.bs(I:Inv X pins σ H s):∀b o,X.base.get? b=some o->s.heap.get? b=some o/\H b=none:=λb o e =>
 ⟨I.base.keep b o (I.ok.bs b o e).1 (I.ok.bs b o e).2 (I.ok.nofr e) (I.ok.noex b o e),I.base.free b o (I.ok.bs b o e).1 (I.ok.bs b o e).2 (I.ok.noex b o e)⟩
theorem Inv.bk(I:Inv X pins σ H s):∀b o,X.base.get? b=some o->s.heap.get? b=some o:=λb o e=>(I.bs b o e).1
theorem Inv.mod(I:Inv X pins σ H s):Mod X.K X.mg X.base:=I.ok.mod
theorem Inv.kIn(I:Inv X pins σ H s):X.K.In s.heap:=I.ok.mod.kin.keeps I.bk
theorem Inv.lt(I:Inv X pins σ H s):X.env.locals<s.heap.objs.size:=let⟨_,hn,_⟩:=I.loc;hn.lt
theorem Inv.sz(I:Inv X pins σ H s):X.s₀.heap.objs.size<=s.heap.objs.size:=yQ I.ok.above (xO I.lt)
theorem Inv.nofs(I:Inv X pins σ H s){a:Addr}(h:s.heap.objs.size<=a):a∉X.fs:=λhb=>by
 obtain⟨_,o,ho,_⟩:=I.ok.funs.mem hb;exact absurd (zA (zU ho) (yQ I.sz h)) (wY _)
theorem Inv.cne(I:Inv X pins σ H s):∀x c,X.env.cells.lookup x=some c->c≠X.env.locals:=λx c e z=>by
 obtain⟨v,o,ho,hd⟩:=I.cell x c e;obtain⟨m,⟨o',es,ep,sV,AQ,_⟩,_⟩:=I.loc;rw[z,sV]at ho;cases ho;rw[AQ]at hd;cases hd
theorem Inv.funs(I:Inv X pins σ H s):s.heap.FunFrames X.base X.outer:=by
 have all:∀(l:List Env),(∀b∈frs l,b∈X.fs)->X.s₀.heap.FunFrames X.base l->s.heap.FunFrames X.base l:=by
  intro l
  induction l with
  |nil=>intro _ _;trivial
  |cons env r ih =>
   intro hs hl;obtain⟨hk,⟨L,o,hf,hn,ho,hd⟩,hr⟩:=hl;have hL:L∈X.fs:=hs L (by unfold frs;rw[yB,hf];exact zD);obtain⟨sl,e⟩:=I.base.slot L o ho (I.ok.frf L hL) hL λz=>I.ok.exfs L z hL;exact⟨hk,⟨L,_,hf,hn,e,hd⟩,ih (λb hb=>hs b (by unfold frs;rw[yB,hf];exact zO _ hb)) hr⟩
 exact all X.outer (λ_ hb=>hb) I.ok.funs
theorem Inv.stack(I:Inv X pins σ H s):s.heap.FunFrames X.base X.stack:=by
 rcases I.ok.stk with e|⟨e,hf⟩
 ·rw[e];exact I.funs
 ·rw[e];obtain⟨m,hn,_⟩:=I.loc;refine .cons (by rw[I.ok.kind];decide) hf hn ?_ I.funs;exact vT (yQ I.ok.bsz I.ok.above)
theorem Inv.stkSub(I:Inv X pins σ H s):∀b∈frs X.stack,b∈X.env.locals::X.fs:=λb hb=>by
 rcases I.ok.stk with e|⟨e,hf⟩
 ·rw[e]at hb;exact zO _ hb
 ·rw[e]at hb;unfold frs at hb;rw[yB,hf]at hb;exact hb
theorem Inv.stkFree(I:Inv X pins σ H s):∀b∈frs X.stack,H b=none:=λb hb=>by
 rcases zL.mp (I.stkSub b hb)with e|hb
 ·rw[e];exact I.free
 ·obtain⟨_,o,ho,_⟩:=I.ok.funs.mem hb;exact I.base.free b o ho (I.ok.frf b hb) λz=>I.ok.exfs b z hb
theorem Inv.step{g':Array GenState}{t':Nat}{d':Drawn}{ch:List Addr}(I:Inv X pins σ H s)
  (pM:∀b∈ch,(b∈X.ex\/X.s₀.heap.objs.size<=b)/\b≠X.env.locals/\(∀x c,X.env.cells.lookup x=some c->c≠b)/\∀p∈X.pn++pins,p.1≠b)
  (keep:∀b o,b≠X.env.locals->b∉X.fs->b∉ch->s.heap.get? b=some o->H b=none->h'.get? b=some o)
  (slot:∀b o,b≠X.env.locals->b∈X.fs->b∉ch->s.heap.get? b=some o->H b=none->∃sl,h'.get? b=some { o with slots:=sl }) (free:∀b o,b∉ch->s.heap.get? b=some o->H b=none->H' b=none)
  (there:∀b o,b∉ch->s.heap.get? b=some o->∃o',h'.get? b=some o')
  (tups:∀b xs,H b=some (.tup xs)->H' b=some (.tup xs)) (frzs:∀b o u,H b=some (.frz o u)->H' b=some (.frz o u)) (tbls:∀b ps,H b=some (.tbl ps)->∃more,H' b=some (.tbl (ps++more)))
  (ns:∀m,s.heap.Ns X.env.locals m->h'.Ns X.env.locals m) (hok:HOk X.prog X.w H' h') (hg:AllBare g') :
  Inv X pins σ H' { s with heap:=h',gens:=g',drawn:=d',toks:=t' }:=by
 have neL:∀b o,X.s₀.heap.get? b=some o->b≠X.env.locals:=λb o e=>zC (zA (zU e) I.ok.above);have neC:∀b o,X.s₀.heap.get? b=some o->b∉X.ex->b∉ch:=λb o e hx hb=>by
  rcases(pM b hb).1 with z|z
  ·exact hx z
  ·exact absurd (zA (zU e) z) (wY _)
 have EZ:∀x c,X.env.cells.lookup x=some c->∀v,s.heap.IsCell c v->h'.IsCell c v:=λx c e v ⟨o,ho,hd⟩=>by
  have PZ:c∉ch:=λz=>(pM c z).2.2.1 x c e rfl
  by_cases hc:c∈X.fs
  ·obtain⟨sl,q⟩:=slot c o (I.cne x c e) hc PZ ho (I.freeC x c e);exact⟨_,q,hd⟩
  ·exact⟨o,keep c o (I.cne x c e) hc PZ ho (I.freeC x c e),hd⟩
 refine⟨I.ok,I.os,hg,⟨λb o e n hb hx=>?_,λb o e n hb hx=>?_,λb o e n hx=>?_,λb o e hx=>?_,λb xs e=>tups b xs (I.base.tups b xs e),λb o xs e=>frzs b o xs (I.base.frzs b o xs e),λb ps e=>?_⟩,?_,λx c e=>?_,?_,λx c e=>?_,λp hp=>?_,hok,I.len⟩
 ·exact keep b o (neL b o e) hb (neC b o e hx) (I.base.keep b o e n hb hx) (I.base.free b o e n hx)
 ·obtain⟨sl,e1⟩:=I.base.slot b o e n hb hx;obtain⟨LZ,e2⟩:=slot b _ (neL b o e) hb (neC b o e hx) e1 (I.base.free b o e n hx);exact⟨LZ,e2⟩
 ·obtain⟨o',e1⟩:=I.base.there b o e hx;exact free b o' (neC b o e hx) e1 (I.base.free b o e n hx)
 ·obtain⟨o',e1⟩:=I.base.there b o e hx;exact there b o' (neC b o e hx) e1
 ·obtain⟨m1,e1⟩:=I.base.tbls b ps e;obtain⟨m2,e2⟩:=tbls b _ e1;exact⟨m1++m2,by rw[e2,Array.append_assoc]⟩
 ·obtain⟨m,hn,hl⟩:=I.loc;refine⟨m,ns m hn,λi x v e1 e2 e3=>?_⟩;obtain⟨u,r,l⟩:=hl i x v e1 e2 e3;refine⟨u,r,?_⟩;rcases l with l|⟨k,c,e,z⟩
  ·exact .inl l
  ·exact .inr ⟨k,c,e,EZ x c e _ z⟩
 ·obtain⟨v,z⟩:=I.cell x c e;exact⟨v,EZ x c e v z⟩
 ·obtain⟨m,⟨o,_,_,ho,_⟩,_⟩:=I.loc;exact free _ o (λz=>(pM _ z).2.1 rfl) ho I.free
 ·obtain⟨v,o,ho,hd⟩:=I.cell x c e;exact free c o (λz=>(pM c z).2.2.1 x c e rfl) ho (I.freeC x c e)
 ·obtain⟨e,n,ne,nf,d⟩:=I.pin p hp;have PZ:p.1∉ch:=λz=>(pM p.1 z).2.2.2 p hp rfl;exact⟨keep p.1 p.2 ne nf PZ e n,free p.1 p.2 PZ e n,ne,nf,d⟩
theorem Inv.un{t':Nat}(I:Inv X pins σ H s)(u:Un X.fs [] H H' s.heap h')(hok:HOk X.prog X.w H' h'):Inv X pins σ H' { s with heap:=h',toks:=t' }:=by
 obtain⟨m,⟨o,es,ep,ho,r⟩,_⟩:=id I.loc;obtain⟨sl,hL⟩:=u.any ho I.free (by simp);exact I.step (g':=s.gens) (d':=s.drawn) (ch:=[]) (λ_ z=>nomatch z) (λb o _ hb _ e n=>u.keep b o e n hb (by simp)) (λb o _ hb _ e n=>u.slot b o e n hb (by simp)) (λb o _ e n=>u.free b o e n (by simp)) (λb o _ e=>u.there b o e (by simp)) u.tups u.frzs u.tbls (λm' hm=>by
  obtain⟨o',eX,nV,sV,r'⟩:=hm;rw[ho]at sV;cases sV;exact⟨_,eX,nV,hL,r'⟩) hok I.bare
theorem Inv.call{g':Array GenState}{t':Nat}{d':Drawn}{ch:List Addr}(I:Inv X pins σ H s)(u:Un (frs X.stack) ch H H' s.heap h')(hok:HOk X.prog X.w H' h')(hg:AllBare g')
  (pM:∀b∈ch,(b∈X.ex\/X.s₀.heap.objs.size<=b)/\b≠X.env.locals/\(∀x c,X.env.cells.lookup x=some c->c≠b)/\∀p∈X.pn++pins,p.1≠b) :
  Inv X pins σ H' { s with heap:=h',gens:=g',drawn:=d',toks:=t' }:=by
 obtain⟨m,⟨o,es,ep,ho,r⟩,_⟩:=id I.loc;obtain⟨sl,hL⟩:=u.any ho I.free λz=>(pM _ z).2.1 rfl;exact I.step (ch:=ch) pM (λb o hL hb hc e n=>u.keep b o e n (λz=>(zL.mp (I.stkSub b z)).elim hL hb) hc) (λb o _ _ hc e n=>u.any e n hc) (λb o hc e n=>u.free b o e n hc) (λb o hc e=>u.there b o e hc) u.tups u.frzs u.tbls (λm' hm=>by
  obtain⟨o',eX,nV,sV,r'⟩:=hm;rw[ho]at sV;cases sV;exact⟨_,eX,nV,hL,r'⟩) hok hg
theorem Inv.turned{t':Nat}{it:Addr}(I:Inv X pins σ H s)(k:∀b o,b≠it->s.heap.get? b=some o->h'.get? b=some o)(hn:H it=none)(hL:it≠X.env.locals)
  (h1:it∈X.ex\/X.s₀.heap.objs.size<=it) (h2:∀x c,X.env.cells.lookup x=some c->c≠it) (h3:∀p∈X.pn++pins,p.1≠it):Inv X pins σ H { s with heap:=h',toks:=t' }:=by
 have PX:∀b u,H b=some u->b≠it:=λb u e z=>by rw[z,hn]at e;cases e
 refine I.step (g':=s.gens) (d':=s.drawn) (ch:=[it]) (λb hb=>?_) (λb o _ _ hc e _=>k b o (λz=>hc (by simp[z])) e) (λb o _ _ hc e _=>⟨o.slots,k b o (λz=>hc (by simp[z])) e⟩) (λ_ _ _ _ n=>n)
  (λb o hc e=>⟨o,k b o (λz=>hc (by simp[z])) e⟩) (λ_ _ e=>e) (λ_ _ _ e=>e) (λb ps e=>⟨#[],by rw[e];simp⟩) (λm hm=>?_) (λb u e=>?_) I.bare
 ·have e:b=it:=by simpa using hb
  subst e;exact⟨h1,hL,h2,h3⟩
 ·obtain⟨o,es,ep,ho,r⟩:=hm;exact⟨o,es,ep,k _ o (wU hL) ho,r⟩
 ·refine(I.hok b u e).stay (λc v hc q=>k c v ?_ q) (λ_ q=>q) λ_ _ q=>q;rcases hc with z|z
  ·rw[z];exact PX b u e
  ·exact PX c _ z
theorem Inv.tok(I:Inv X pins σ H s)(t:Nat):Inv X pins σ H { s with toks:=t }:=I.un (h':=s.heap) (t':=t) Un.refl I.hok
theorem Inv.kept{t':Nat}(I:Inv X pins σ H s)(k:∀b u,s.heap.get? b=some u->h'.get? b=some u):Inv X pins σ H { s with heap:=h',toks:=t' }:=I.un (Un.kept k) (I.hok.kept k)
theorem Inv.laid{a:Addr}{o:HO}{t':Nat}(I:Inv X pins σ H s)(k:∀b u,s.heap.get? b=some u->h'.get? b=some u)(hp:s.heap.objs.size<=a)(new:ObjOk X.prog X.w (upd H a o) h' a o):
  Inv X pins σ (upd H a o) { s with heap:=h',toks:=t' }:=I.un (Un.laid k hp (I.hok.fresh hp)) (I.hok.laid k hp new)
theorem Inv.write{x e:Addr}{o:HO}{t':Nat}(I:Inv X pins σ H s)(mu:Mut (H x))(he:e=x\/H e=some (.own x))(k:∀b u,b≠e->s.heap.get? b=some u->h'.get? b=some u)(JY:∃u,h'.get? e=some u)
  (new:ObjOk X.prog X.w (upd H x o) h' x o):Inv X pins σ (upd H x o) { s with heap:=h',toks:=t' }:=I.un (Un.write mu he k JY) (I.hok.write mu he k JY new)
theorem Inv.pins_of{EE:List (Addr×Obj)}(I:Inv X pins σ H s)(h:∀p∈EE,s.heap.get? p.1=some p.2/\H p.1=none/\p.1≠X.env.locals/\p.1∉X.fs/\∀v,p.2.data≠.cell v):Inv X EE σ H s :=
 ⟨I.ok,I.os,I.bare,I.base,I.loc,I.cell,I.free,I.freeC,λp hp=>(zK.mp hp).elim (λz=>I.pin p (yU _ z)) (h p),I.hok,I.len⟩
theorem ke{N:List Str}(hN:N.Nodup){i j:Nat}{x:Str}(a:N[i]?=some x)(b:N[j]?=some x):i=j:=by
 obtain⟨h1,e1⟩:=zR.mp a;obtain⟨h2,e2⟩:=zR.mp b;exact(List.getElem_inj hN).mp (e1.trans e2.symm)
theorem T5{M:Model}{A:Around}{E:Value->Shared->Prop}{i:Nat}{x:Str}{v:V}{u:Value}{Q:Unit->Shared->Prop}(I:Inv X pins σ H s)(hN:X.N.Nodup)(hi:X.N[i]?=some x)(hx:Loc X.env.scope x)(r:RelV v u)
  (h:∀s',Inv X pins (σ.set i (some v)) H s'->(∃a,Heap.SameBut a s.heap s'.heap/\(a=X.env.locals\/X.env.cells.lookup x=some a))->Q () s') (hf:X.fn x=true\/X.env.scope.names.lookup x=some .local:=by first|exact .inl rfl|exact .inr rfl|assumption):wpAny M A (storeName X.env x u) Q E s:=by
 obtain⟨m,hn,hl⟩:=id I.loc;have HQ:(X.env.scope.kind == .class||(X.env.scope.kind == .module&&X.env.locals != X.env.globals))=false:=by rw[I.ok.kind];rfl
 have hiσ:i<σ.length:=by rw[I.len];exact(zR.mp hi).1
 have cne:=I.cne;have sD:∀{a:Addr}{h':Heap},(∃o,s.heap.get? a=some o/\H a=none)->Heap.SameBut a s.heap h'->HOk X.prog X.w H h':=λ{a h'} ha hs b ob e=>by
  obtain⟨_,_,EV⟩:=ha;refine(I.hok b ob e).stay (λc w' hc q=>(hs.2 c ?_).trans q) (λ_ q=>q) λ_ _ q=>q;rintro rfl;rcases hc with rfl|hc
  ·rw[EV]at e;cases e
  ·rw[EV]at hc;cases hc
 rcases hx with hk|hk
 ·refine wpAny_storeName_local hk hn (λh' CP hs=>?_) HQ;obtain⟨oL,_,_,hoL,_⟩:=id hn;refine h _ ⟨I.ok,I.os,I.bare,⟨λb o e n hb hx=>?_,λb o e n hb hx=>?_,I.base.free,λb o e hx=>?_,I.base.tups,I.base.frzs,I.base.tbls⟩,⟨_,CP,λj y v' e1 e2 e3=>?_⟩,λy c e=>?_,I.free,I.freeC,λp hp=>?_,sD ⟨oL,hoL,I.free⟩ hs,by simpa using I.len⟩ ⟨_,hs,.inl rfl⟩
  ·exact(hs.2 b (zC (zA (zU e) I.ok.above))).trans (I.base.keep b o e n hb hx)
  ·obtain⟨sl,e1⟩:=I.base.slot b o e n hb hx;exact⟨sl,(hs.2 b (zC (zA (zU e) I.ok.above))).trans e1⟩
  ·obtain⟨o',e1⟩:=I.base.there b o e hx;exact⟨o',(hs.2 b (zC (zA (zU e) I.ok.above))).trans e1⟩
  ·by_cases hj:j=i
   ·subst hj;rw[hi]at e1;cases e1;rw[tR hiσ]at e2;cases e2;exact⟨u,r,.inl ⟨hk,by simp⟩⟩
   ·rw[List.getElem?_set_ne (wU hj)]at e2;obtain⟨u',r',q⟩:=hl j y v' e1 e2 e3;refine⟨u',r',?_⟩;rcases q with⟨k,e⟩|⟨k,c,e,z⟩
    ·refine .inl ⟨k,?_⟩;have:y≠x:=λe=>hj (ke hN e1 (e▸hi));simp[this,e]
    ·exact .inr ⟨k,c,e,z.sameBut hs (cne y c e)⟩
  ·obtain⟨w',z⟩:=I.cell y c e;exact⟨w',z.sameBut hs (cne y c e)⟩
  ·obtain⟨e,n,ne,nf,d⟩:=I.pin p hp;exact⟨(hs.2 p.1 ne).trans e,n,ne,nf,d⟩
 ·have hfn:X.fn x=true:=by
   rcases hf with z|z
   ·exact z
   ·rw[z]at hk;cases hk
  obtain⟨c,hc⟩:=I.ok.has x (.inl hk);obtain⟨w',z⟩:=I.cell x c hc;refine wpAny_storeName_cell I.ok.kind hk hc z (λh' DH hs=>?_);obtain⟨oc,hoc,hocd⟩:=id z;refine h { s with heap:=h' } ⟨I.ok,I.os,I.bare,⟨λb o e n hb hx=>?_,λb o e n hb hx=>?_,I.base.free,λb o e hx=>?_,I.base.tups,I.base.frzs,I.base.tbls⟩,⟨m,hn.sameBut hs (wU (cne x c hc)),λj y v' e1 e2 e3=>?_⟩,λy c' e=>?_,I.free,I.freeC,λp hp=>?_,sD ⟨oc,hoc,I.freeC x c hc⟩ hs,by simpa using I.len⟩ ⟨c,hs,.inr hc⟩
  ·exact(hs.2 b (zC (zA (zU e) (I.ok.cab x c hfn hc)))).trans (I.base.keep b o e n hb hx)
  ·obtain⟨sl,e1⟩:=I.base.slot b o e n hb hx;exact⟨sl,(hs.2 b (zC (zA (zU e) (I.ok.cab x c hfn hc)))).trans e1⟩
  ·obtain⟨o',e1⟩:=I.base.there b o e hx;exact⟨o',(hs.2 b (zC (zA (zU e) (I.ok.cab x c hfn hc)))).trans e1⟩
  ·by_cases hj:j=i
   ·subst hj;rw[hi]at e1;cases e1;rw[tR hiσ]at e2;cases e2;exact⟨u,r,.inr ⟨.inl hk,c,hc,DH⟩⟩
   ·rw[List.getElem?_set_ne (wU hj)]at e2;obtain⟨u',r',q⟩:=hl j y v' e1 e2 e3;refine⟨u',r',?_⟩;rcases q with q|⟨k,c',e,z'⟩
    ·exact .inl q
    ·refine .inr ⟨k,c',e,z'.sameBut hs ?_⟩;rintro rfl;exact hj (ke hN e1 (I.ok.inj _ _ _ e hc▸hi))
  ·by_cases hcc:c'=c
   ·subst hcc;exact⟨_,DH⟩
   ·obtain⟨w2,z2⟩:=I.cell y c' e;exact⟨w2,z2.sameBut hs hcc⟩
  ·obtain⟨e,n,ne,nf,d⟩:=I.pin p hp;refine⟨(hs.2 p.1 ?_).trans e,n,ne,nf,d⟩;intro q;rw[q,hoc]at e;have q':oc=p.2:=yT e;exact d w' (by rw[<-q'];exact hocd)
theorem k8{M:Model}{A:Around}{E:Value->Shared->Prop}{i:Nat}{x:Str}{v:V}{u:Value}{Q:Unit->Shared->Prop}(I:Inv X pins σ H s)(hN:X.N.Nodup)(hi:X.N[i]?=some x)(hx:Loc X.env.scope x)(r:RelV v u)
  (h:∀s',Inv X pins (σ.set i (some v)) H s'->Q () s') (hf:X.fn x=true\/X.env.scope.names.lookup x=some .local:=by first|exact .inl rfl|exact .inr rfl|assumption):wpAny M A (storeName X.env x u) Q E s :=
 T5 I hN hi hx r (λs' I' _=>h s' I') hf
theorem Inv.call'{s':Shared}{ch:List Addr}(I:Inv X pins σ H s)(ho:s'.os=s.os)(u:Un (frs X.stack) ch H H' s.heap s'.heap)(hok:HOk X.prog X.w H' s'.heap)(hg:AllBare s'.gens)
  (pM:∀b∈ch,(b∈X.ex\/X.s₀.heap.objs.size<=b)/\b≠X.env.locals/\(∀x c,X.env.cells.lookup x=some c->c≠b)/\∀p∈X.pn++pins,p.1≠b):Inv X pins σ H' s':=by
 obtain⟨h',g',d',t',o'⟩:=s';have e:o'=s.os:=ho;subst e;exact I.call (g':=g') (t':=t') (d':=d') u hok hg pM
end
abbrev XK:=Value->Option Addr->Hp->Prop
abbrev St:=List (Option V)
abbrev VK:=V->Hp->Prop
abbrev TE:=St->Hp->VK->Prop
abbrev TT:=St->Hp->(Bool->Hp->Prop)->Prop
abbrev TA:=St->Hp->(List V->Hp->Prop)->Prop
structure wa where
 nx:St->Hp->Prop
 rt:VK
 bk:St->Hp->Prop:=λ_ _=>False
 ct:St->Hp->Prop:=λ_ _=>False
abbrev TS:=wa->St->Hp->Prop
def EP(X:Cx)(pins:List (Addr×Obj))(σ:St)(Q:VK)(u:Value)(s':Shared):Prop:=∃v H',Inv X pins σ H' s'/\RelV v u/\Q v H'
def TP(X:Cx)(pins:List (Addr×Obj))(σ:St)(Q:Bool->Hp->Prop)(b:Bool)(s':Shared):Prop:=∃H',Inv X pins σ H' s'/\Q b H'
def AP(X:Cx)(pins:List (Addr×Obj))(σ:St)(Q:List V->Hp->Prop)(us:List Value)(s':Shared):Prop:=∃vs H',Inv X pins σ H' s'/\Vals vs us/\Q vs H'
def SP(X:Cx)(pins:List (Addr×Obj))(D:wa)(f:Flow)(s':Shared):Prop :=
 match f with
 | .next=>∃σ' H',Inv X pins σ' H' s'/\D.nx σ' H'
 | .brk=>∃σ' H',Inv X pins σ' H' s'/\D.bk σ' H'
 | .cont=>∃σ' H',Inv X pins σ' H' s'/\D.ct σ' H'
 | .ret u=>∃v σ' H',Inv X pins σ' H' s'/\RelV v u/\D.rt v H'
def PE(X:Cx)(e:Expr)(t:TE):Prop :=
 ∀(pins:List (Addr×Obj))(s:Shared)(σ:St)(H:Hp)(Q:VK),Inv X pins σ H s->t σ H Q->wpAny (model X.prog X.w) X.A (eval e X.env) (EP X pins σ Q) X.xe s
def PT(X:Cx)(e:Expr)(t:TT):Prop :=
 ∀(pins:List (Addr×Obj))(s:Shared)(σ:St)(H:Hp)(Q:Bool->Hp->Prop),Inv X pins σ H s->t σ H Q->wpAny (model X.prog X.w) X.A (isTrue e X.env (eval e X.env)) (TP X pins σ Q) X.xe s
def PW(X:Cx)(e:Expr)(t:TT):Prop :=
 ∀(sC:Sem Value)(pins:List (Addr×Obj))(s:Shared)(σ:St)(H:Hp)(Q:Bool->Hp->Prop),Inv X pins σ H s->t σ H Q->wpAny (model X.prog X.w) X.A (isTrue e X.env sC) (TP X pins σ Q) X.xe s
theorem PW.pt{X:Cx}{e:Expr}{t:TT}(h:PW X e t):PT X e t:=h _
def PA(X:Cx)(es:List Expr)(t:TA):Prop :=
 ∀(pos:Pos)(pins:List (Addr×Obj))(s:Shared)(σ:St)(H:Hp)(Q:List V->Hp->Prop),Inv X pins σ H s->t σ H Q->wpAny (model X.prog X.w) X.A (spliced (backTo pos (starEach es X.env))) (AP X pins σ Q) X.xe s
def PS(X:Cx)(st:Stmt)(t:TS):Prop :=
 ∀(pins:List (Addr×Obj))(s:Shared)(σ:St)(H:Hp)(D:wa),Inv X pins σ H s->t D σ H->wpAny (model X.prog X.w) X.A (exec st X.env) (SP X pins D) X.xe s
def PSs(X:Cx)(st:List Stmt)(t:TS):Prop :=
 ∀(pins:List (Addr×Obj))(s:Shared)(σ:St)(H:Hp)(D:wa),Inv X pins σ H s->t D σ H->wpAny (model X.prog X.w) X.A (execs st X.env) (SP X pins D) X.xe s
theorem thn{α:Type}{t:Sem α}{Q Q':α->Shared->Prop}{M:Model}{A:Around}{E:Value->Shared->Prop}{s:Shared}(h:wpAny M A t Q E s)(hQ:∀a s,Q a s->Q' a s):wpAny M A t Q' E s:=yN h hQ λ_ _ x=>x
end L2
namespace L2
open PySem PySem.Spec PyProof.Rows
section
variable {X:Cx}
def B6(i:Nat):TE:=fun σ H Q=>∃v,σ[i]?=some (some v)/\Q v H
def tC(v:V):TE:=λ_ H Q=>Q v H
theorem Ip{i:Nat}{x:Str}{pos:Pos}(hN:X.N[i]?=some x)(hv:Vis X.env.scope x)(hd:(x==("__debug__":Str))=false:=by decide)(pN:(x==("__classdict__":Str))=false:=by decide):PE X (.Name x pos) (B6 i):=by
 intro pins s σ H Q I h;obtain⟨v,e,h⟩:=h;obtain⟨m,hn,hl⟩:=I.loc;obtain⟨u,r,l⟩:=hl i x v hN e hv;have cJ:EP X pins σ Q u s:=⟨v,H,I,r,h⟩
 rcases l with⟨hk,hm⟩|⟨hk,c,hc,hcell⟩
 ·exact wpAny_Name (wpAny_loadName_local I.ok.kind hk hn hm cJ) hd
 ·rcases hk with hk|hk
  ·exact wpAny_Name (wpAny_loadName_cell I.ok.kind hk hc hcell cJ) hd
  ·exact wpAny_Name (wpAny_loadName_free I.ok.kind hk hc hcell cJ pN) hd
theorem zv{i j pos}:PE X (.Constant (.int i) j pos) (tC (.int i)):=λ_ _ _ H _ I h=>wpAny_Constant_int ⟨.int i,H,I.tok _,⟨_,rfl⟩,h⟩
theorem yj{b j pos}:PE X (.Constant (.bool b) j pos) (tC (.bl b)):=λ_ _ _ H _ I h=>Constant_bool ⟨.bl b,H,I,rfl,h⟩
theorem Io{j pos}:PE X (.Constant .none j pos) (tC .non):=λ_ _ _ H _ I h=>Constant_none ⟨.non,H,I,rfl,h⟩
theorem z7{x j pos}:PE X (.Constant (.str x) j pos) (tC (.str x)):=λ_ _ _ H _ I h=>Calls.Constant_str ⟨.str x,H,I.tok _,⟨_,rfl⟩,h⟩
def Gl(X:Cx)(x:Str):Prop:=X.env.kindOf x=some .globalImplicit
theorem vt{E:Value->Shared->Prop}{pins:List (Addr×Obj)}{s:Shared}{σ:St}{H:Hp}{x:Str}{u:Value}{pos:Pos}{Q:Value->Shared->Prop}(I:Inv X pins σ H s)(hg:Gl X x)(hm:X.mg x=some u)(h:Q u s)
  (hd:(x==("__debug__":Str))=false:=by decide):wpAny (model X.prog X.w) X.A (eval (.Name x pos) X.env) Q E s :=
 Calls.Name_function_global I.ok.kind hg (Calls.loadGlobal_global (by rw[I.ok.glob];exact I.mod.glob.keeps I.bk) hm h) hd
theorem tu{E:Value->Shared->Prop}{pins:List (Addr×Obj)}{s:Shared}{σ:St}{H:Hp}{x:Str}{u:Value}{pos:Pos}{Q:Value->Shared->Prop}(I:Inv X pins σ H s)(hg:Gl X x)(hm:X.mg x=none)(hv:bootBuiltins x=some u)(h:Q u s)
  (hn:x≠"__name__":=by decide) (hd:(x==("__debug__":Str))=false:=by decide):wpAny (model X.prog X.w) X.A (eval (.Name x pos) X.env) Q E s:=by
 obtain⟨mb,h1,h2⟩:=I.mod.blt;exact Calls.Name_function_global I.ok.kind hg (Calls.loadGlobal_builtin (by rw[I.ok.glob];exact I.mod.glob.keeps I.bk) hm (by rw[I.ok.blt];exact h1.keeps I.bk) ((h2 x hn).trans hv) h) hd
theorem yc{x:Str}{v:V}{u:Value}{pos:Pos}(hg:Gl X x)(hm:X.mg x=none)(hv:bootBuiltins x=some u)(r:RelV v u)(hn:x≠"__name__":=by decide)(hd:(x==("__debug__":Str))=false:=by decide):PE X (.Name x pos) (tC v) :=
 λ_ _ _ H _ I h=>tu I hg hm hv ⟨v,H,I,r,h⟩ hn hd
variable {a b:Expr}{ta tb:TE}{pos:Pos}
variable {tA tB':TT}{rest:List Expr}
def Fs(t u:TT):TT:=fun σ H Q=>t σ H λc H1=>if c=true then u σ H1 Q else Q false H1
def tOr(t u:TT):TT:=fun σ H Q=>t σ H λc H1=>if c=true then Q true H1 else u σ H1 Q
def Fx(t:TT):TT:=fun σ H Q=>t σ H λc H1=>Q (!c) H1
theorem Ve(ha:PT X a tA):PW X (.BoolOp .And [a] pos) tA:=by
 intro wh pins s σ H Q I h;refine isTrue_and (thn (ha pins s σ H Q I h) λc s1 e=>?_);cases c with
 |true=>exact isTrue_and_nil e
 |false=>exact e
theorem ud(ha:PT X a tA):PW X (.BoolOp .Or [a] pos) tA:=by
 intro wh pins s σ H Q I h;refine isTrue_or (thn (ha pins s σ H Q I h) λc s1 e=>?_);cases c with
 |false=>exact isTrue_or_nil e
 |true=>exact e
theorem Qp(ha:PT X a tA)(hb:PW X (.BoolOp .And (b::rest) pos) tB'):PW X (.BoolOp .And (a::b::rest) pos) (Fs tA tB'):=by
 intro wh pins s σ H Q I h;refine isTrue_and (thn (ha pins s σ H _ I h) λc s1 ⟨H1,I1,q1⟩=>?_);cases c with
 |true=>exact hb wh pins s1 σ H1 Q I1 q1
 |false=>exact⟨H1,I1,q1⟩
theorem su(ha:PT X a tA)(hb:PW X (.BoolOp .Or (b::rest) pos) tB'):PW X (.BoolOp .Or (a::b::rest) pos) (tOr tA tB'):=by
 intro wh pins s σ H Q I h;refine isTrue_or (thn (ha pins s σ H _ I h) λc s1 ⟨H1,I1,q1⟩=>?_);cases c with
 |true=>exact⟨H1,I1,q1⟩
 |false=>exact hb wh pins s1 σ H1 Q I1 q1
theorem wu(ha:PT X a tA):PT X (.UnaryOp .Not a pos) (Fx tA):=by
 intro pins s σ H Q I h;exact isTrue_not (ha pins s σ H (λc H1=>Q (!c) H1) I h)
theorem p0{op}{t:TE}(h:PE X a t):PE X (.BoolOp op [a] pos) t:=λpins s σ H Q I hw=>BoolOp_one (h pins s σ H Q I hw)
def tIf(t:TT)(ta tb:TE):TE:=fun σ H Q=>t σ H λc H1=>if c=true then ta σ H1 Q else tb σ H1 Q
theorem Qe{c:Expr}(hc:PT X c tA)(ha:PE X a ta)(hb:PE X b tb):PE X (.IfExp c a b pos) (tIf tA ta tb):=by
 intro pins s σ H Q I h;refine wpAny_IfExp (thn (hc pins s σ H _ I h) λd s1 ⟨H1,I1,q1⟩=>?_);cases d with
 |true=>exact ha pins s1 σ H1 Q I1 q1
 |false=>exact hb pins s1 σ H1 Q I1 q1
end
end L2
namespace L2
open PySem PySem.Spec PyProof.Rows
def SqL(K:W.Frag)(H:Hp)(a:Addr)(xs:List V):Prop :=
 Rd H a (.lst xs) \/
  ∃(o:Obj)(aJ:Array Value)(n:Nat),K.lookup a=some o/\o.cls = .type "list"/\o.dict=none/\o.data = .seq aJ n/\aJ.size<=sizeLine/\Vals xs aJ.toList
def SqT(K:W.Frag)(H:Hp)(a:Addr)(xs:List V):Prop :=
 Rd H a (.tup xs) \/
  ∃(o:Obj)(aJ:Array Value)(n:Nat),K.lookup a=some o/\o.cls = .type "tuple"/\o.data = .seq aJ n/\aJ.size<=sizeLine/\Vals xs aJ.toList
def Aj:Value->Option V
 | .none=>some .non
 | .bool b=>some (.bl b)
 | .int i _=>some (.int i)
 | .str x _=>some (.str x)
 | .bytes b _=>some (.byt b)
 | .float b _=>some (.flt b)
 | .ref a=>some (.ref a)
 | .type n=>some (.ty n)
 |_=>none
theorem RelV.abs{x:V}{u:Value}(r:RelV x u):Aj u=some x:=by
 cases x with
 |non=>cases r;rfl
 |bl _=>cases r;rfl
 |int _=>obtain⟨t,rfl⟩:=r;rfl
 |str _=>obtain⟨t,rfl⟩:=r;rfl
 |byt _=>obtain⟨t,rfl⟩:=r;rfl
 |flt _=>obtain⟨t,rfl⟩:=r;rfl
 |ref _=>cases r;rfl
 |ty _=>cases r;rfl
theorem RelV.inj{x y:V}{u:Value}(r:RelV x u)(q:RelV y u):x=y:=yT (r.abs.symm.trans q.abs)
theorem Vals.inj:∀{xs ys:List V}{us:List Value},Vals xs us->Vals ys us->xs=ys
 |_,_,_,.nil,.nil=>rfl
 |_,_,_,.cons r t,.cons r' t'=>by rw[r.inj r',Vals.inj t t']
section
variable {X:Cx}{pins:List (Addr×Obj)}{σ:St}{H:Hp}{s:Shared}{a:Addr}{xs ys:List V}
theorem SqL.of{K:W.Frag}(h:H a=some (.lst xs)):SqL K H a xs:=.inl (.inl h)
theorem SqT.of{K:W.Frag}(h:H a=some (.tup xs)):SqT K H a xs:=.inl (.inl h)
theorem Inv.list(I:Inv X pins σ H s)(h:SqL X.K H a xs):∃aJ:List Value,Vals xs aJ/\PlainL s.heap a aJ.toArray/\xs.length<=sizeLine:=by
 rcases h with h|⟨o,aJ,n,hk,hc,hd,hs,hz,r⟩
 ·obtain⟨z,aJ,n,r,e⟩:=h.ok I.hok;exact⟨aJ,r,⟨_,n,e,rfl,rfl,rfl⟩,z⟩
 ·refine⟨aJ.toList,r,⟨o,n,I.kIn a o hk,hc,hd,by simpa using hs⟩,?_⟩;have e:=r.length;simp only[xQ]at e;lia
theorem Inv.tuple(I:Inv X pins σ H s)(h:SqT X.K H a xs):∃aJ:List Value,Vals xs aJ/\IsTup s.heap a aJ.toArray/\xs.length<=sizeLine:=by
 rcases h with h|⟨o,aJ,n,hk,hc,hs,hz,r⟩
 ·obtain⟨z,aJ,r,p⟩:=h.ok I.hok;exact⟨aJ,r,p,z⟩
 ·refine⟨aJ.toList,r,⟨o,I.kIn a o hk,hc,n,by simpa using hs⟩,?_⟩;have e:=r.length;simp only[xQ]at e;lia
theorem Inv.list_inj(I:Inv X pins σ H s)(h:SqL X.K H a xs)(h':SqL X.K H a ys):xs=ys:=by
 obtain⟨aJ,r,⟨o,n,e,_,_,d⟩,_⟩:=I.list h;obtain⟨its',r',⟨o',n',e',_,_,d'⟩,_⟩:=I.list h';rw[e]at e';cases e';rw[d]at d';injection d' with d1 _;have:aJ=its':=by simpa using xH Array.toList d1
 subst this;exact r.inj r'
theorem Inv.tuple_inj(I:Inv X pins σ H s)(h:SqT X.K H a xs)(h':SqT X.K H a ys):xs=ys:=by
 obtain⟨aJ,r,⟨o,e,_,n,d⟩,_⟩:=I.tuple h;obtain⟨its',r',⟨o',e',_,n',d'⟩,_⟩:=I.tuple h';rw[e]at e';cases e';rw[d]at d';injection d' with d1 _;have:aJ=its':=by simpa using xH Array.toList d1
 subst this;exact r.inj r'
end
abbrev Cx.wish(X:Cx)(E:Value->Shared->Prop):Cx:={ X with xe:=E }
abbrev Cx.nox(X:Cx):Cx:=X.wish λ_ _=>False
theorem Cx.Ok.wish{X:Cx}(ok:X.Ok)(E:Value->Shared->Prop):(X.wish E).Ok :=
 ⟨ok.mod,ok.kind,ok.glob,ok.blt,ok.above,ok.inj,ok.has,ok.cab,ok.hd,ok.frames,ok.stk,ok.exf,ok.bs,ok.bsz,ok.noex,ok.exfs,ok.funs,ok.frf⟩
theorem Cx.Ok.unwish{X:Cx}{E:Value->Shared->Prop}(ok:(X.wish E).Ok):X.Ok :=
 ⟨ok.mod,ok.kind,ok.glob,ok.blt,ok.above,ok.inj,ok.has,ok.cab,ok.hd,ok.frames,ok.stk,ok.exf,ok.bs,ok.bsz,ok.noex,ok.exfs,ok.funs,ok.frf⟩
section
variable {X:Cx}{pins:List (Addr×Obj)}{σ:St}{H:Hp}{s:Shared}{E:Value->Shared->Prop}
theorem Inv.wish(I:Inv X pins σ H s)(E:Value->Shared->Prop):Inv (X.wish E) pins σ H s:=⟨I.ok.wish E,I.os,I.bare,I.base,I.loc,I.cell,I.free,I.freeC,I.pin,I.hok,I.len⟩
theorem Inv.unwish(I:Inv (X.wish E) pins σ H s):Inv X pins σ H s:=⟨I.ok.unwish,I.os,I.bare,I.base,I.loc,I.cell,I.free,I.freeC,I.pin,I.hok,I.len⟩
theorem SP.unwish{D:wa}{f:Flow}{s':Shared}(h:SP (X.wish E) pins D f s'):SP X pins D f s':=by
 cases f with
 |next=>obtain⟨σ',H',I,q⟩:=h;exact⟨σ',H',I.unwish,q⟩
 |brk=>obtain⟨σ',H',I,q⟩:=h;exact⟨σ',H',I.unwish,q⟩
 |cont=>obtain⟨σ',H',I,q⟩:=h;exact⟨σ',H',I.unwish,q⟩
 |ret u=>obtain⟨v,σ',H',I,r,q⟩:=h;exact⟨v,σ',H',I.unwish,r,q⟩
theorem PSs.nox{st:List Stmt}{t:TS}(h:PSs X.nox st t):PSs X st t:=λpins s σ H D I hw =>
 yN (h pins s σ H D (I.wish _) hw) (λ_ _ q=>q.unwish) λ_ _ z=>False.elim z
end
section
variable {X:Cx}{st:Stmt}{rest:List Stmt}{t u:TS}{e:Expr}{te:TE}{pos:Pos}
def Rm:TS:=λD σ H=>D.nx σ H
def Zm(t u:TS):TS:=λD σ H=>t { D with nx:=u D } σ H
theorem zi:PSs X [] Rm:=λ_ _ σ H _ I h=>wI ⟨σ,H,I,h⟩
theorem zz(h1:PS X st t)(h2:PSs X rest u):PSs X (st::rest) (Zm t u):=by
 intro pins s σ H D I h;refine tF (thn (h1 pins s σ H { D with nx:=u D } I h) λf s1 q=>?_);cases f with
 |next =>
  obtain⟨σ',H',I',q⟩:=q;exact h2 pins s1 σ' H' D I' q
 |ret v=>exact q
 |brk=>exact q
 |cont=>exact q
theorem zx(h1:PS X st t):PSs X [st] t:=by
 intro pins s σ H D I h;refine tF (thn (h1 pins s σ H D I h) λf s1 q=>?_);cases f with
 |next=>exact wI q
 |ret v=>exact q
 |brk=>exact q
 |cont=>exact q
def Jz:TS:=λD σ H=>D.bk σ H
def Ft:TS:=λD σ H=>D.ct σ H
theorem Inv.quiet{pins:List (Addr×Obj)}{σ:St}{H:Hp}{s:Shared}(I:Inv X pins σ H s):interactive X.env=false:=by simp[interactive,I.ok.kind]
def K4(te:TE):TS:=λD σ H=>te σ H λ_ H1=>D.nx σ H1
theorem yi(he:PE X e te)(hs:swapsWith e none pos.line X.env=pure false:=by rfl):PS X (.Expr e pos) (K4 te):=by
 intro pins s σ H D I h;exact wpAny_Expr_any (thn (he pins s σ H _ I h) λv s1 ⟨x,H1,I1,r1,q1⟩=>⟨σ,H1,I1,q1⟩) I.quiet hs
def J4(te:TE):TS:=λD σ H=>te σ H D.rt
theorem zk(he:PE X e te):PS X (.Return (some e) pos) (J4 te):=by
 intro pins s σ H D I h;exact wpAny_Return_some (thn (he pins s σ H _ I h) λv s1 ⟨x,H1,I1,r1,q1⟩=>⟨x,σ,H1,I1,r1,q1⟩)
def J1(c:TT)(t u:TS):TS:=λD σ H=>c σ H λb H1=>if b=true then t D σ H1 else u D σ H1
theorem za{c:Expr}{a b:List Stmt}{tc:TT}(hc:PT X c tc)(ha:PSs X a t)(hb:PSs X b u):PS X (.If c a b pos) (J1 tc t u):=by
 intro pins s σ H D I h;refine wpAny_If (thn (hc pins s σ H _ I h) λd s1 ⟨H1,I1,q1⟩=>?_);cases d with
 |true=>exact ha pins s1 σ H1 D I1 q1
 |false=>exact hb pins s1 σ H1 D I1 q1
end
abbrev TG:=V->St->Hp->(St->Hp->Prop)->Prop
abbrev TGs:=List V->St->Hp->(St->Hp->Prop)->Prop
def PG(X:Cx)(bZ:Expr)(t:TG):Prop :=
 ∀(pins:List (Addr×Obj))(s:Shared)(σ:St)(H:Hp)(v:V)(u:Value)(Q:St->Hp->Prop),Inv X pins σ H s->RelV v u->t v σ H Q ->
  wpAny (model X.prog X.w) X.A (assign bZ X.env u) (λ_ s'=>∃σ' H',Inv X pins σ' H' s'/\Q σ' H') X.xe s
def PGs(X:Cx)(ts:List Expr)(t:TGs):Prop :=
 ∀(pins:List (Addr×Obj))(s:Shared)(σ:St)(H:Hp)(vs:List V)(us:List Value)(Q:St->Hp->Prop),Inv X pins σ H s->Vals vs us->t vs σ H Q ->
  wpAny (model X.prog X.w) X.A (assignInOrder ((assignEach ts X.env).map (·.2)) us) (λ_ s'=>∃σ' H',Inv X pins σ' H' s'/\Q σ' H') X.xe s
abbrev Ci:=V->V->V->Hp->(Hp->Prop)->Prop
section
variable {X:Cx}{pos:Pos}
def bp(i:Nat):TG:=λv σ H Q=>Q (σ.set i (some v)) H
theorem Mr{i:Nat}{x:Str}(hN:X.N.Nodup)(hi:X.N[i]?=some x)(hx:Loc X.env.scope x)(hf:X.fn x=true\/X.env.scope.names.lookup x=some .local:=by first|exact .inl rfl|exact .inr rfl|assumption):PG X (.Name x pos) (bp i):=by
 intro pins s σ H v u Q I r h;exact wpAny_assign_Name (k8 I hN hi hx r (λs' I'=>⟨_,H,I',h⟩) hf)
def A2:TGs:=λvs σ H Q=>vs=[]/\Q σ H
def Cw(t:TG)(u:TGs):TGs:=λvs σ H Q=>∃v r,vs=v::r/\t v σ H fun σ' H'=>u r σ' H' Q
theorem af:PGs X [] A2:=by
 intro pins s σ H vs us Q I r h;obtain⟨e,h⟩:=h;subst e;cases r;exact assignInOrder_nil ⟨σ,H,I,h⟩
theorem vq{e:Expr}{es:List Expr}{t:TG}{u:TGs}(h1:PG X e t)(h2:PGs X es u)
  (hs:(assignEach (e::es) X.env).map (·.2)=assign e X.env::(assignEach es X.env).map (·.2):=by rfl):PGs X (e::es) (Cw t u):=by
 intro pins s σ H vs us Q I r h;obtain⟨v,vr,e1,h⟩:=h;subst e1;cases r with
 |cons r rr =>
  rw[hs];refine assignInOrder_cons (thn (h1 pins s σ H _ _ _ I r h) λ_ s1 ⟨σ1,H1,I1,q1⟩=>?_);exact h2 pins s1 σ1 H1 _ _ Q I1 rr q1
def A4(K:W.Frag)(n:Nat)(t:TGs):TG:=λv σ H Q=>∃a xs,v = .ref a/\SqT K H a xs/\xs.length=n/\t xs σ H Q
theorem Iq{es:List Expr}{k:Nat}{t:TGs}{n:Nat}(hc:X.calm=true)(h:PGs X es t)
  (hn:(assignEach es X.env).length=n:=by rfl) (gY:(assignEach es X.env).findIdx? (·.1)=none:=by rfl):PG X (.Tuple es k pos) (A4 X.K n t):=by
 intro pins s σ H v u Q I r hw;obtain⟨a,xs,e1,hq,hl,hw⟩:=hw;subst e1;cases r;obtain⟨aJ,rv,ht,hz⟩:=I.tuple hq;refine assign_Tuple_tuple (I.ok.hd hc) ht (by simp[hn,<-hl,rv.length]) gY λh' hx=>?_;have I1:Inv X pins σ H { s with heap:=h' }:=I.kept (t':=s.toks) λb o e=>hx b o (zC (zU e)) e;exact h pins _ σ H xs _ Q I1 (by simpa using rv) hw
def A3(to ti:TE)(t:Ci):TG:=λv σ H Q=>to σ H λo H1=>ti σ H1 λi H2=>t o i v H2 λH3=>Q σ H3
def Np(te:TE)(g:TG):TS:=λD σ H=>te σ H λx H1=>g x σ H1 D.nx
theorem Xp{tg e:Expr}{te:TE}{g:TG}(he:PE X e te)(hg:PG X tg g)(hs:swapsWithSole [tg] e pos.line X.env=pure false:=by rfl)(hw:swappedStores [tg] e X.env=pure none:=by rfl)
  (h1:(assignEach [tg] X.env).map (·.2)=[assign tg X.env]:=by rfl):PS X (.Assign [tg] e pos) (Np te g):=by
 intro pins s σ H D I h;refine wpAny_Assign_stores (thn (he pins s σ H _ I h) λv s1 ⟨x,H1,I1,r1,q1⟩=>?_) hs hw;rw[h1];exact thn (hg pins s1 σ H1 x v _ I1 r1 q1) λ_ s2 q=>q
theorem Iv{i:Nat}{x:Str}{e:Expr}{te:TE}{jW:Pos}(hN:X.N.Nodup)(hi:X.N[i]?=some x)(hx:Loc X.env.scope x)(he:PE X e te)(hs:swapsWith e (some (.Name x jW)) pos.line X.env=pure false:=by rfl)(hf:X.fn x=true\/X.env.scope.names.lookup x=some .local:=by first|exact .inl rfl|exact .inr rfl|assumption):
  PS X (.Assign [.Name x jW] e pos) (Np te (bp i)):=by
 intro pins s σ H D I h;refine wpAny_Assign_Name (thn (he pins s σ H _ I h) λv s1 ⟨y,H1,I1,r1,q1⟩=>?_) hs;exact k8 I1 hN hi hx r1 (λs2 I2=>⟨_,H1,I2,q1⟩) hf
end
section
variable {X:Cx}{pos:Pos}
def Rn(c:TT)(tb:TS):TS:=λD σ H=>∃W:Nat->St->Hp->Prop,(∃m,W m σ H)/\∀m σ H,W m σ H ->
 c σ H λb H1=>if b=true then∃N:St->Hp->Prop,(∀σ' H',N σ' H'->∃m',m'<m/\W m' σ' H')/\tb { D with nx:=N,ct:=N,bk:=D.nx } σ H1 else D.nx σ H1
theorem Qo{c:Expr}{body:List Stmt}{tc:TT}{tb:TS}(hp:PassesOwn (model X.prog X.w) X.A X.env X.xe)(hc:PT X c tc)(hb:PSs X body tb):PS X (.While c body [] pos) (Rn tc tb):=by
 intro pins s σ H D I h;obtain⟨W,⟨m0,w0⟩,lN⟩:=h;refine wpAny_While (codeAny_whileLoop (λn s'=>∃σ' H',Inv X pins σ' H' s'/\W n σ' H') ?_ m0 ⟨σ,H,I,w0⟩);rintro n s1 ⟨σ1,H1,I1,w1⟩;refine vV hp (thn (hc pins s1 σ1 H1 _ I1 (lN n σ1 H1 w1)) λb s2 ⟨H2,I2,q2⟩=>?_);cases b with
 |true =>
  obtain⟨N,hN,q2⟩:=q2;rw[zG rfl];refine vV hp (thn (hb pins s2 σ1 H2 _ I2 q2) λf s3 q3=>?_);cases f with
  |next =>
   obtain⟨σ3,H3,I3,n3⟩:=q3;obtain⟨m',hm,w3⟩:=hN σ3 H3 n3;exact⟨m',hm,σ3,H3,I3,w3⟩
  |cont =>
   obtain⟨σ3,H3,I3,n3⟩:=q3;obtain⟨m',hm,w3⟩:=hN σ3 H3 n3;exact⟨m',hm,σ3,H3,I3,w3⟩
  |brk=>exact q3
  |ret v=>exact q3
 |false =>
  rw[zM zH];exact wI ⟨σ1,H2,I2,q2⟩
end
structure It where
 go:Nat->Hp->Prop
 yld:Nat->Hp->V->Hp->Prop
 stop:Nat->Hp->Prop
def pk(X:Cx)(pins:List (Addr×Obj))(H:Hp)(b:Addr):Prop :=
 H b=none/\b≠X.env.locals/\b∉X.fs/\(b∈X.ex\/X.s₀.heap.objs.size<=b)/\(∀x c,X.env.cells.lookup x=some c->c≠b)/\∀p∈X.pn++pins,p.1≠b
theorem Inv.fpOk{X:Cx}{pins:List (Addr×Obj)}{σ:St}{H H':Hp}{s:Shared}{b:Addr}(I:Inv X pins σ H s)(hb:s.heap.objs.size<=b)(hn:H' b=none):pk X pins H' b:=by
 refine⟨hn,wF (zA I.lt hb),I.nofs hb,.inr (yQ I.sz hb),λx c e z=>?_,λp hp z=>?_⟩
 ·obtain⟨v,q⟩:=I.cell x c e;exact absurd (zA q.lt (by rw[z];exact hb)) (wY _)
 ·exact absurd (zA (zU (I.pin p hp).1) (by rw[z];exact hb)) (wY _)
structure dz(P:Program)(w:World)(K:W.Frag)(tg:Expr)(J:It)(fp:List Addr)(it:Addr)(tn:Nat->Heap->Prop):Prop where
 mem:it∈fp
 obj:∀i h,tn i h->∀b∈fp,∃o,h.get? b=some o/\∀v,o.data≠.cell v
 keep:∀i h h',tn i h->(∀b∈fp,∀o,h.get? b=some o->h'.get? b=some o)->tn i h'
 item:∀(X:Cx),X.prog=P->X.w=w->X.K=K->X.calm=true->∀(i:Nat)(pins:List (Addr×Obj))(s:Shared)(σ:St)(H:Hp)(E:Value->Shared->Prop),Inv X pins σ H s->(∀b∈fp,pk X pins H b)->tn i s.heap->J.go i H ->
  wpAny (model P w) X.A (pyNext (.ref it)) (λr s1=>∃u,r=some u /\
   wpAny (model P w) X.A (letOwnedTupleGo tg (.ref it) u) (λ_ s2=>∃x H',Inv X pins σ H' s2/\RelV x u/\J.yld i H x H'/\tn (i+1) s2.heap/\∀b∈fp,H' b=none) E s1) E s
 done:∀(X:Cx),X.prog=P->X.w=w->X.K=K->X.calm=true->∀(i:Nat)(pins:List (Addr×Obj))(s:Shared)(σ:St)(H:Hp)(E:Value->Shared->Prop),Inv X pins σ H s->(∀b∈fp,pk X pins H b)->tn i s.heap->J.stop i H ->
  wpAny (model P w) X.A (pyNext (.ref it)) (λr s1=>r=none/\Inv X pins σ H s1) E s
 self:∀(A:Around)(i:Nat)(s:Shared)(Q:Value->Shared->Prop)(E:Value->Shared->Prop),tn i s.heap->Q (.ref it) s->wpAny (model P w) A (pyIter (.ref it)) Q E s
abbrev TI:=St->Hp->(It->Hp->Prop)->Prop
def PIE(X:Cx)(pins:List (Addr×Obj))(σ:St)(tg:Expr)(R:It->Hp->Prop)(itv:Value)(s2:Shared):Prop :=
 ∃(it:Addr)(fp:List Addr)(tn:Nat->Heap->Prop)(J:It)(H':Hp),itv = .ref it/\Inv X pins σ H' s2/\dz X.prog X.w X.K tg J fp it tn/\tn 0 s2.heap/\(∀b∈fp,pk X pins H' b)/\R J H'
def PI(X:Cx)(tg iter:Expr)(wi:TI):Prop :=
 ∀(pins:List (Addr×Obj))(s:Shared)(σ:St)(H:Hp)(R:It->Hp->Prop),Inv X pins σ H s->wi σ H R ->
  wpAny (model X.prog X.w) X.A (eval iter X.env) (λv s1=>wpAny (model X.prog X.w) X.A (pyIter v) (PIE X pins σ tg R) X.xe s1) X.xe s
theorem bq{M:Model}{A:Around}{E:Value->Shared->Prop}{s:Shared}{tg:Expr}{it:Addr}{u:Value}{o:Obj}{n:String}{vs:Array Value}{Q:Unit->Shared->Prop}(ho:s.heap.get? it=some o)(hc:o.cls = .type n)(hd:o.data = .fields vs)
  (hn:["enumerate","zip","dict_itemiterator","dict_reverseitemiterator","odict_iterator","itertools.zip_longest","itertools.pairwise"].contains n=false) (hQ:Q () s):wpAny M A (letOwnedTupleGo tg (.ref it) u) Q E s:=by
 unfold letOwnedTupleGo;cases tg<;>first
  |exact zW hQ
  |(cases u<;>first
    |exact zW hQ
    |(refine zZ (wpAny_load ho ?_);rw[hc,hd];show wpAny M A (if(["enumerate","zip","dict_itemiterator","dict_reverseitemiterator","odict_iterator","itertools.zip_longest","itertools.pairwise"].contains n&&vs[0]?==some (rawInt _))=true then _ else _) Q E s;rw[zM (by intro h;rw[hn,tH]at h;cases h)];exact zW hQ))
def Itl(K:W.Frag)(a:Addr):It :=
 ⟨λi H=>∃xs x,SqL K H a xs/\xs[i]?=some x,λi H x H'=>H'=H/\∀xs,SqL K H a xs->xs[i]?=some x,λi H=>∃xs,SqL K H a xs/\xs.length<=i⟩
def Itt(K:W.Frag)(a:Addr):It :=
 ⟨λi H=>∃xs x,SqT K H a xs/\xs[i]?=some x,λi H x H'=>H'=H/\∀xs,SqT K H a xs->xs[i]?=some x,λi H=>∃xs,SqT K H a xs/\xs.length<=i⟩
def Itr(lo:Int)(n:Nat):It:=⟨λi _=>i<n,λi H x H'=>H'=H/\x = .int (lo+i),λi _=>n<=i⟩
theorem Ua{P:Program}{w:World}{K:W.Frag}{tg:Expr}(a it:Addr):dz P w K tg (Itl K a) [it] it (λi h=>h.IsListIter it a i)where
 mem:=by simp
 obj:=λi h st b hb=>by
  have e:b=it:=by simpa using hb
  subst e;obtain⟨o,e,c,d⟩:=st;exact⟨o,e,λv z=>by rw[d]at z;cases z⟩
 keep:=λi h h' st k=>st.at λo e=>k it (by simp) o e
 item:=by
  intro X hP hw hK hc i pins s σ H E I hf st hg;subst hP hw hK;obtain⟨xs,x,hq,hx⟩:=hg;obtain⟨aJ,rv,p,hz⟩:=I.list hq;obtain⟨u,hu,ru⟩:=rv.get hx;obtain⟨f0,f1,f2,f3,f4,f5⟩:=hf it (by simp);refine wpAny_pyNext_list_item st p.isList (x:=u) (by simpa using hu) λh' iL sb=>?_;have I1:Inv X pins σ H { s with heap:=h' }:=I.turned (t':=s.toks) (λb o hb e=>(sb.2 b hb).trans e) f0 f1 f3 f4 f5;obtain⟨o,e,c,d⟩:=id iL;exact⟨u,rfl,bq (s:={ s with heap:=h' }) e c d (by decide) ⟨x,H,I1,ru,⟨rfl,λys hy=>by rw[I.list_inj hy hq];exact hx⟩,iL,λb hb=>(hf b hb).1⟩⟩
 done:=by
  intro X hP hw hK hc i pins s σ H E I hf st hg;subst hP hw hK;obtain⟨xs,hq,hx⟩:=hg;obtain⟨aJ,rv,p,hz⟩:=I.list hq;obtain⟨f0,f1,f2,f3,f4,f5⟩:=hf it (by simp);have hl:=rv.length;exact wpAny_pyNext_list_end (I.ok.hd hc) st p.isList (by simp;lia) λh' eb=>⟨rfl,I.turned (t':=s.toks) (λb o hb e=>eb b o hb e) f0 f1 f3 f4 f5⟩
 self:=λ_ _ _ _ _ st h=>wpAny_pyIter_listiter st h
theorem X4{P:Program}{w:World}{K:W.Frag}{tg:Expr}(a it:Addr):dz P w K tg (Itt K a) [it] it (λi h=>h.IsTupleIter it a i)where
 mem:=by simp
 obj:=λi h st b hb=>by
  have e:b=it:=by simpa using hb
  subst e;obtain⟨o,e,c,d⟩:=st;exact⟨o,e,λv z=>by rw[d]at z;cases z⟩
 keep:=λi h h' st k=>st.at λo e=>k it (by simp) o e
 item:=by
  intro X hP hw hK hc i pins s σ H E I hf st hg;subst hP hw hK;obtain⟨xs,x,hq,hx⟩:=hg;obtain⟨aJ,rv,p,hz⟩:=I.tuple hq;obtain⟨u,hu,ru⟩:=rv.get hx;obtain⟨f0,f1,f2,f3,f4,f5⟩:=hf it (by simp);refine wpAny_pyNext_tuple_item st (show s.heap.IsTuple a aJ.toArray from p) (x:=u) (by simpa using hu) λh' iL sb=>?_;have I1:Inv X pins σ H { s with heap:=h' }:=I.turned (t':=s.toks) (λb o hb e=>(sb.2 b hb).trans e) f0 f1 f3 f4 f5;obtain⟨o,e,c,d⟩:=id iL;exact⟨u,rfl,bq (s:={ s with heap:=h' }) e c d (by decide) ⟨x,H,I1,ru,⟨rfl,λys hy=>by rw[I.tuple_inj hy hq];exact hx⟩,iL,λb hb=>(hf b hb).1⟩⟩
 done:=by
  intro X hP hw hK hc i pins s σ H E I hf st hg;subst hP hw hK;obtain⟨xs,hq,hx⟩:=hg;obtain⟨aJ,rv,p,hz⟩:=I.tuple hq;obtain⟨f0,f1,f2,f3,f4,f5⟩:=hf it (by simp);have hl:=rv.length;exact wpAny_pyNext_tuple_end (I.ok.hd hc) st (show s.heap.IsTuple a aJ.toArray from p) (by simp;lia) λh' eb=>⟨rfl,I.turned (t':=s.toks) (λb o hb e=>eb b o hb e) f0 f1 f3 f4 f5⟩
 self:=λ_ _ _ _ _ st h=>wpAny_pyIter_tupleiter st h
theorem X3{P:Program}{w:World}{K:W.Frag}{tg:Expr}(it:Addr)(lo:Int)(n:Nat):dz P w K tg (Itr lo n) [it] it (λi h=>IsRangeIter h it (lo+(i:Nat)*1) ((n:Int)-(i:Nat)) 1)where
 mem:=by simp
 obj:=λi h st b hb=>by
  have e:b=it:=by simpa using hb
  subst e;exact⟨_,st,λv z=>by
   have z':Data.fields _=Data.cell v:=z;cases z'⟩
 keep:=λi h h' st k=>k it (by simp) _ st
 item:=by
  intro X hP hw hK hc i pins s σ H E I hf st hg;subst hP hw hK;obtain⟨f0,f1,f2,f3,f4,f5⟩:=hf it (by simp);have W:=Walks.range (prog:=X.prog) (w:=X.w) (I.ok.hd hc) it lo 1 n;refine W.item i s _ _ hg st λv h' tk hv iL kk=>?_;obtain⟨t,rfl⟩:=hv;have I1:Inv X pins σ H { s with heap:=h',toks:=tk }:=I.turned (λb o hb e=>kk b o (by simpa using hb) e) f0 f1 f3 f4 f5;refine⟨_,rfl,bq (s:={ s with heap:=h',toks:=tk }) (n:="range_iterator") iL rfl rfl (by decide) ⟨.int (lo+i),H,I1,⟨t,?_⟩,⟨rfl,rfl⟩,iL,λb hb=>(hf b hb).1⟩⟩;rw[Int.mul_one]
 done:=by
  intro X hP hw hK hc i pins s σ H E I hf st hg;subst hP hw hK;obtain⟨f0,f1,f2,f3,f4,f5⟩:=hf it (by simp);exact wpAny_pyNext_range_end (I.ok.hd hc) st (by have:n<=i:=hg;lia) λh' eb=>⟨rfl,I.turned (t':=s.toks) (λb o hb e=>eb b o hb e) f0 f1 f3 f4 f5⟩
 self:=λ_ _ _ _ _ st h=>wpAny_pyIter_rangeiter st h
end L2
namespace L2
open PySem PySem.Spec PyProof.Rows
section
variable {X:Cx}{tg:Expr}
theorem Qs{pins:List (Addr×Obj)}{σ:St}{H:Hp}{s:Shared}{R:It->Hp->Prop}{E:Value->Shared->Prop}{lo hi:Int}{t u v:Tok}{tk:Nat}(I:Inv X pins σ H s)(h1:-(2 ^ 62)<=lo)(h2:lo<2 ^ 62)(h3:-(2 ^ 62)<=hi)(h4:hi<2 ^ 62)
  (q:R (Itr lo (hi-lo).toNat) H):wpAny (model X.prog X.w) X.A (pyIter (.ref s.heap.objs.size)) (PIE X pins σ tg R) E { s with heap:=s.heap.push { cls:=.type "range",data:=.fields #[.int lo t,.int hi u,.int 1 v] },toks:=tk }:=by
 refine wpAny_pyIter_range (IsRange.new ..) (small_one h1 h2 h3 h4) ?_;have I1:Inv X pins σ H { s with heap:=s.heap.push { cls:=.type "range",data:=.fields #[.int lo t,.int hi u,.int 1 v] },toks:=tk }:=I.kept λb o e=>zY _ e;refine⟨(s.heap.push { cls:=.type "range",data:=.fields #[.int lo t,.int hi u,.int 1 v] }).objs.size,[(s.heap.push { cls:=.type "range",data:=.fields #[.int lo t,.int hi u,.int 1 v] }).objs.size],_,_,H,rfl,
  I1.kept (t':=tk) λb o e=>zY _ e,X3 _ lo (hi-lo).toNat,?_,λb hb=>?_,q⟩
 ·have e1:lo+((0:Nat):Int)*1=lo:=by simp
  have e2:(((hi-lo).toNat:Nat):Int)-((0:Nat):Int)=Builtin.Range.rangeSize lo hi 1:=by rw[rangeSize_one];split<;>lia
  show IsRangeIter _ _ (lo+((0:Nat):Int)*1) ((((hi-lo).toNat:Nat):Int)-((0:Nat):Int)) 1;rw[e1,e2];exact zS _ rfl
 ·have e:b=(s.heap.push { cls:=.type "range",data:=.fields #[.int lo t,.int hi u,.int 1 v] }).objs.size:=by simpa using hb
  subst e;exact I1.fpOk (zT _) (I1.hok.fresh (zT _))
def B4(wi:TI)(g:TG)(tb:TS):TS:=λD σ H=>wi σ H λJ H1=>∃W:Nat->Nat->St->Hp->Prop,(∃m,W 0 m σ H1)/\∀i m σ H,W i m σ H ->
 (J.stop i H/\D.nx σ H)\/(J.go i H/\∃N:St->Hp->Prop,(∀σ' H',N σ' H'->∃m',m'<m/\W (i+1) m' σ' H')/\∀x H',J.yld i H x H'->g x σ H' fun σ2 H2=>tb { D with nx:=N,ct:=N,bk:=D.nx } σ2 H2)
def qa(fp:List Addr)(h:Heap):List (Addr×Obj):=fp.filterMap λb=>(h.get? b).map λo=>(b,o)
theorem wn{fp:List Addr}{h:Heap}{b:Addr}{o:Obj}(hb:b∈fp)(e:h.get? b=some o):(b,o)∈qa fp h:=List.mem_filterMap.mpr ⟨b,hb,by rw[e];rfl⟩
theorem Td{fp:List Addr}{h:Heap}{p:Addr×Obj}(hp:p∈qa fp h):p.1∈fp/\h.get? p.1=some p.2:=by
 obtain⟨b,hb,e⟩:=List.mem_filterMap.mp hp;cases q:h.get? b with
 |none=>rw[q]at e;cases e
 |some o =>
  rw[q]at e;have e':(b,o)=p:=yT e;subst e';exact⟨hb,q⟩
theorem Inv.pinned{pins:List (Addr×Obj)}{σ:St}{H:Hp}{s:Shared}{fp:List Addr}(I:Inv X pins σ H s)(hf:∀b∈fp,pk X pins H b)(ho:∀b∈fp,∃o,s.heap.get? b=some o/\∀v,o.data≠.cell v):Inv X (pins++qa fp s.heap) σ H s :=
 I.pins_of λp hp=>(zK.mp hp).elim (λz=>I.pin p (zQ _ z)) λz=>by
  obtain⟨hb,e⟩:=Td z;obtain⟨f0,f1,f2,_⟩:=hf p.1 hb;obtain⟨o,e',d⟩:=ho p.1 hb;rw[e]at e';cases e';exact⟨e,f0,f1,f2,d⟩
theorem Inv.unpinned{pins pl:List (Addr×Obj)}{σ:St}{H:Hp}{s:Shared}(I:Inv X (pins++pl) σ H s):Inv X pins σ H s:=I.pins_of λp hp=>I.pin p (zQ _ (yU _ hp))
theorem Is{iter:Expr}{body:List Stmt}{wi:TI}{g:TG}{tb:TS}{pos:Pos}(hp:PassesOwn (model X.prog X.w) X.A X.env X.xe)(hc:X.calm=true)(hi:PI X tg iter wi)(hg:PG X tg g)(hb:PSs X body tb)
  (hs:∀x,foldedSetIterable iter X.env x=pure x:=by intro _;rfl):PS X (.For tg iter body [] pos) (B4 wi g tb):=by
 intro pins s σ H D I h;refine wpAny_For (thn (hi pins s σ H _ I h) λv s1 h1=>thn h1 λitv s2 h2=>?_) hs;obtain⟨it,fp,tn,J,H2,e,I2,T,KR,f2,W,⟨m0,w0⟩,lN⟩:=h2;subst e;have qQ:∀{H':Hp},(∀b∈fp,H' b=none)->∀b∈fp,pk X pins H' b:=λhn b hb=>⟨hn b hb,(f2 b hb).2⟩
 refine codeAny_forLoop_any (λn s'=>∃i σ' H',Inv X pins σ' H' s'/\tn i s'.heap/\(∀b∈fp,H' b=none)/\W i n σ' H') ?_ m0 ⟨0,σ,H2,I2,KR,λb hb=>(f2 b hb).1,w0⟩;rintro n s3 ⟨i,σ3,H3,I3,KQ,VL,w3⟩;rcases lN i n σ3 H3 w3 with⟨stop,qn⟩|⟨go,N,hN,step⟩
 ·refine vV hp (thn (T.done X rfl rfl rfl hc i pins s3 σ3 H3 X.xe I3 (qQ VL) KQ stop) λr s4 ⟨hr,I4⟩=>?_);subst hr;exact wI ⟨σ3,H3,I4,qn⟩
 ·refine vV hp (thn (T.item X rfl rfl rfl hc i pins s3 σ3 H3 X.xe I3 (qQ VL) KQ go) λr s4 ⟨u,hr,h4⟩=>?_);subst hr;refine vV hp (thn h4 λ_ s5 ⟨x,H5,I5,r5,y5,CI,KI⟩=>?_);have I5':=I5.pinned (qQ KI) (T.obj _ _ CI);refine vV hp (thn (hg _ s5 σ3 H5 x u _ I5' r5 (step x H5 y5)) λ_ s6 ⟨σ6,H6,I6,q6⟩=>?_);refine vV hp (thn (hb _ s6 σ6 H6 _ I6 q6) λf s7 q7=>?_);have again:∀{σ7:St}{H7:Hp},Inv X (pins++qa fp s5.heap) σ7 H7 s7->N σ7 H7->∃m,m<n/\∃i σ' H',Inv X pins σ' H' s7/\tn i s7.heap/\(∀b∈fp,H' b=none)/\W i m σ' H':=λ{σ7 H7} I7 n7=>by
   obtain⟨m',hm,w7⟩:=hN σ7 H7 n7;refine⟨m',hm,i+1,σ7,H7,I7.unpinned,T.keep _ _ _ CI λb hb o e=>(I7.pin (b,o) (zQ _ (zQ _ (wn hb e)))).1,λb hb=>?_,w7⟩;obtain⟨o,e,d⟩:=T.obj _ _ CI b hb;exact(I7.pin (b,o) (zQ _ (zQ _ (wn hb e)))).2.1
  cases f with
  |next=>obtain⟨σ7,H7,I7,n7⟩:=q7;exact again I7 n7
  |cont=>obtain⟨σ7,H7,I7,n7⟩:=q7;exact again I7 n7
  |brk=>obtain⟨σ7,H7,I7,q7⟩:=q7;exact⟨σ7,H7,I7.unpinned,q7⟩
  |ret v=>obtain⟨x7,σ7,H7,I7,r7,q7⟩:=q7;exact⟨x7,σ7,H7,I7.unpinned,r7,q7⟩
end
theorem On{K:W.Frag}{a:Addr}{xs:List V}{g:TG}{tb:TS}{D:wa}{σ:St}{H:Hp}(Pv:Nat->St->Hp->Prop)(h0:Pv 0 σ H)(hl:∀i σ H,i<=xs.length->Pv i σ H->SqL K H a xs)
  (hs:∀i x σ H,xs[i]?=some x->Pv i σ H->g x σ H fun σ2 H2=>tb { D with nx:=Pv (i+1),ct:=Pv (i+1),bk:=D.nx } σ2 H2) (hd:∀σ H,Pv xs.length σ H->D.nx σ H) :
  ∃W:Nat->Nat->St->Hp->Prop,(∃m,W 0 m σ H)/\∀i m σ H,W i m σ H ->
   ((Itl K a).stop i H/\D.nx σ H)\/((Itl K a).go i H/\∃N:St->Hp->Prop,(∀σ' H',N σ' H'->∃m',m'<m/\W (i+1) m' σ' H')/\∀x H',(Itl K a).yld i H x H'->g x σ H' fun σ2 H2=>tb { D with nx:=N,ct:=N,bk:=D.nx } σ2 H2):=by
 refine⟨λi m σ H=>m=xs.length-i/\i<=xs.length/\Pv i σ H,⟨xs.length,by simp,yJ _,h0⟩,?_⟩;rintro i m σ H ⟨rfl,hi,p⟩;have q:=hl i σ H hi p
 by_cases bA:i<xs.length
 ·refine .inr ⟨⟨xs,xs[i],q,by simp[bA]⟩,Pv (i+1),fun σ' H' p'=>⟨xs.length-(i+1),by lia,rfl,bA,p'⟩,λx H' y=>?_⟩;obtain⟨e,y⟩:=y;subst e;exact hs i x σ _ (y xs q) p
 ·have e:i=xs.length:=by lia
  subst e;exact .inl ⟨⟨xs,q,zT _⟩,hd σ H p⟩
theorem Lj{K:W.Frag}{a:Addr}{xs:List V}{g:TG}{tb:TS}{D:wa}{σ:St}{H:Hp}(Pv:Nat->St->Hp->Prop)(h0:Pv 0 σ H)(hl:∀i σ H,i<=xs.length->Pv i σ H->SqT K H a xs)
  (hs:∀i x σ H,xs[i]?=some x->Pv i σ H->g x σ H fun σ2 H2=>tb { D with nx:=Pv (i+1),ct:=Pv (i+1),bk:=D.nx } σ2 H2) (hd:∀σ H,Pv xs.length σ H->D.nx σ H) :
  ∃W:Nat->Nat->St->Hp->Prop,(∃m,W 0 m σ H)/\∀i m σ H,W i m σ H ->
   ((Itt K a).stop i H/\D.nx σ H)\/((Itt K a).go i H/\∃N:St->Hp->Prop,(∀σ' H',N σ' H'->∃m',m'<m/\W (i+1) m' σ' H')/\∀x H',(Itt K a).yld i H x H'->g x σ H' fun σ2 H2=>tb { D with nx:=N,ct:=N,bk:=D.nx } σ2 H2):=by
 refine⟨λi m σ H=>m=xs.length-i/\i<=xs.length/\Pv i σ H,⟨xs.length,by simp,yJ _,h0⟩,?_⟩;rintro i m σ H ⟨rfl,hi,p⟩;have q:=hl i σ H hi p
 by_cases bA:i<xs.length
 ·refine .inr ⟨⟨xs,xs[i],q,by simp[bA]⟩,Pv (i+1),fun σ' H' p'=>⟨xs.length-(i+1),by lia,rfl,bA,p'⟩,λx H' y=>?_⟩;obtain⟨e,y⟩:=y;subst e;exact hs i x σ _ (y xs q) p
 ·have e:i=xs.length:=by lia
  subst e;exact .inl ⟨⟨xs,q,zT _⟩,hd σ H p⟩
theorem Si{lo:Int}{n:Nat}{g:TG}{tb:TS}{D:wa}{σ:St}{H:Hp}(Pv:Nat->St->Hp->Prop)(h0:Pv 0 σ H)
  (hs:∀i σ H,i<n->Pv i σ H->g (.int (lo+i)) σ H fun σ2 H2=>tb { D with nx:=Pv (i+1),ct:=Pv (i+1),bk:=D.nx } σ2 H2) (hd:∀σ H,Pv n σ H->D.nx σ H) :
  ∃W:Nat->Nat->St->Hp->Prop,(∃m,W 0 m σ H)/\∀i m σ H,W i m σ H ->
   ((Itr lo n).stop i H/\D.nx σ H)\/((Itr lo n).go i H/\∃N:St->Hp->Prop,(∀σ' H',N σ' H'->∃m',m'<m/\W (i+1) m' σ' H')/\∀x H',(Itr lo n).yld i H x H'->g x σ H' fun σ2 H2=>tb { D with nx:=N,ct:=N,bk:=D.nx } σ2 H2):=by
 refine⟨λi m σ H=>m=n-i/\i<=n/\Pv i σ H,⟨n,by simp,yJ _,h0⟩,?_⟩;rintro i m σ H ⟨rfl,hi,p⟩
 by_cases bA:i<n
 ·refine .inr ⟨bA,Pv (i+1),fun σ' H' p'=>⟨n-(i+1),by lia,rfl,bA,p'⟩,λx H' y=>?_⟩;obtain⟨e,y⟩:=y;subst e y;exact hs i σ _ bA p
 ·have e:i=n:=by lia
  subst e;exact .inl ⟨zT _,hd σ H p⟩
end L2
namespace L2
open PySem PySem.Spec PyProof.Rows
abbrev R2:=V->V->Hp->VK->Prop
def OpR(X:Cx)(f:Value->Value->Sem Value)(r:R2):Prop :=
 ∀(pins:List (Addr×Obj))(s:Shared)(σ:St)(H:Hp)(x y:V)(v u:Value)(Q:VK),Inv X pins σ H s->RelV x v->RelV y u->r x y H Q ->
  wpAny (model X.prog X.w) X.A (f v u) (EP X pins σ Q) X.xe s
def vf(X:Cx)(f:Value)(r:List V->Hp->VK->Prop):Prop :=
 ∀(pins:List (Addr×Obj))(s:Shared)(σ:St)(H:Hp)(xs:List V)(us:List Value)(Q:VK),Inv X pins σ H s->Vals xs us->r xs H Q ->
  wpAny (model X.prog X.w) X.A (call f us) (EP X pins σ Q) X.xe s
def tOp(r:R2)(ta tb:TE):TE:=fun σ H Q=>ta σ H λx H1=>tb σ H1 λy H2=>r x y H2 Q
def rI(C:Int->Int->Prop)(g:Int->Int->V):R2:=λx y H Q=>∃i j,x = .int i/\y = .int j/\C i j/\Q (g i j) H
def rI0(g:Int->Int->V):R2:=λx y H Q=>∃i j,x = .int i/\y = .int j/\Q (g i j) H
section
variable {X:Cx}{a b c:Expr}{ta tb tc:TE}{pos:Pos}
theorem Gk(ha:PE X a ta)(hb:PE X b tb){pins:List (Addr×Obj)}{s:Shared}{σ:St}{H:Hp}{R:V->V->Hp->Prop}(I:Inv X pins σ H s)
  (h:ta σ H λx H1=>tb σ H1 λy H2=>R x y H2) {Q:Value->Shared->Prop}{f:Value->Value->Sem Value}
  (hf:∀v u s2 x y H2,Inv X pins σ H2 s2->RelV x v->RelV y u->R x y H2->wpAny (model X.prog X.w) X.A (f v u) Q X.xe s2) :
  wpAny (model X.prog X.w) X.A (eval a X.env) (λv s₁=>wpAny (model X.prog X.w) X.A (eval b X.env) (λu s₂=>wpAny (model X.prog X.w) X.A (f v u) Q X.xe s₂) X.xe s₁) X.xe s:=by
 refine thn (ha pins s σ H _ I h) λv s1 ⟨x,H1,I1,r1,q1⟩=>?_;refine thn (hb pins s1 σ H1 _ I1 q1) λu s2 ⟨y,H2,I2,r2,q2⟩=>?_;exact hf v u s2 x y H2 I2 r1 r2 q2
theorem z6{op:Operator}{r:R2}(ho:OpR X (binaryOp op) r)(ha:PE X a ta)(hb:PE X b tb):PE X (.BinOp a op b pos) (tOp r ta tb):=by
 intro pins s σ H Q I h;exact wpAny_BinOp (Gk ha hb I h λv u s2 x y H2 I2 rx ry q=>ho pins s2 σ H2 x y v u Q I2 rx ry q)
theorem opI{f:Value->Value->Sem Value}{C:Int->Int->Prop}{g:Int->Int->Int}
  (rule:∀(i j:Int)(t u:Tok)(s:Shared)(Q:Value->Shared->Prop)(E:Value->Shared->Prop),C i j->Q (.int (g i j) s.toks) { s with toks:=s.toks+1 }->wpAny (model X.prog X.w) X.A (f (.int i t) (.int j u)) Q E s) :
  OpR X f (rI C λi j=>.int (g i j)):=by
 intro pins s σ H x y v u Q I rx ry h;obtain⟨i,j,rfl,rfl,hc,q⟩:=h;obtain⟨t,rfl⟩:=rx;obtain⟨t',rfl⟩:=ry;exact rule i j t t' s _ _ hc ⟨.int (g i j),H,I.tok _,⟨_,rfl⟩,q⟩
theorem Bq{f:Value->Value->Sem Value}{g:Int->Int->Int}
  (rule:∀(i j:Int)(t u:Tok)(s:Shared)(Q:Value->Shared->Prop)(E:Value->Shared->Prop),Q (.int (g i j) s.toks) { s with toks:=s.toks+1 }->wpAny (model X.prog X.w) X.A (f (.int i t) (.int j u)) Q E s) :
  OpR X f (rI0 λi j=>.int (g i j)):=by
 intro pins s σ H x y v u Q I rx ry h;obtain⟨i,j,rfl,rfl,q⟩:=h;obtain⟨t,rfl⟩:=rx;obtain⟨t',rfl⟩:=ry;exact rule i j t t' s _ _ ⟨.int (g i j),H,I.tok _,⟨_,rfl⟩,q⟩
theorem Ed{f:Value->Value->Sem Value}{g:Int->Int->Bool}
  (rule:∀(i j:Int)(t u:Tok)(s:Shared)(Q:Value->Shared->Prop)(E:Value->Shared->Prop),Q (.bool (g i j)) s->wpAny (model X.prog X.w) X.A (f (.int i t) (.int j u)) Q E s) :
  OpR X f (rI0 λi j=>.bl (g i j)):=by
 intro pins s σ H x y v u Q I rx ry h;obtain⟨i,j,rfl,rfl,q⟩:=h;obtain⟨t,rfl⟩:=rx;obtain⟨t',rfl⟩:=ry;exact rule i j t t' s _ _ ⟨.bl (g i j),H,I,rfl,q⟩
def Ca(i j:Int):Prop:=0<j/\j<1073741824
def CMul(i j:Int):Prop:=(-(2 ^ 64)<i/\i<2 ^ 64)\/(-(2 ^ 64)<j/\j<2 ^ 64)
theorem CMul.ok{i j:Int}(h:CMul i j):IntMulOk i j:=by
 rcases h with⟨h1,h2⟩|⟨h1,h2⟩
 ·exact .of_left (intBits_le_64 h1 h2)
 ·exact .of_right (intBits_le_64 h1 h2)
theorem Ii:OpR X (binaryOp .Add) (rI0 λi j=>.int (i+j)):=Bq λ_ _ _ _ _ _ _ q=>add_int q
theorem Il:OpR X (binaryOp .Mult) (rI CMul λi j=>.int (i*j)):=opI λ_ _ _ _ _ _ _ hc q=>mul_int q hc.ok
theorem Mo:OpR X (binaryOp .FloorDiv) (rI Ca λi j=>.int (i / j)):=opI λi j _ _ _ _ _ hc q=>by
 have h1:(0:Int)<j:=hc.1;have h2:j<1073741824:=hc.2;exact floordiv_int (by lia) (by rw[Int.fdiv_eq_ediv_of_nonneg i (by lia)];exact q) (.inl (PyProof.noPylong_small (by lia)))
theorem Ik:OpR X (binaryOp .Mod) (rI (λ_ j=>0<j) λi j=>.int (i % j)):=opI λi j _ _ _ _ _ hc q=>by
 have h1:(0:Int)<j:=hc;exact mod_int' (by lia) (by rw[Int.fmod_eq_emod_of_nonneg i (by lia)];exact q)
end
def Jm:V->V->Bool
 | .non,.non=>true|.non,.int _=>true|.int _,.non=>true|.non,.bl _=>true|.bl _,.non=>true|.non,.str _=>true|.str _,.non=>true
 | .int _,.int _=>true|.bl _,.bl _=>true|.str _,.str _=>true|.byt _,.byt _=>true
 | .int _,.str _=>true|.str _,.int _=>true|.bl _,.str _=>true|.str _,.bl _=>true
 |_,_=>false
def rEq:R2:=λx y H Q=>Jm x y=true/\Q (.bl (decide (x=y))) H
def rNe:R2:=λx y H Q=>Jm x y=true/\Q (.bl (!decide (x=y))) H
theorem Uu{i j:Int}:decide (V.int i=V.int j)=(i==j):=by
 rw[vC];simp
theorem Oi{i j:Bool}:decide (V.bl i=V.bl j)=(i==j):=by
 rw[vC];simp
theorem Uv{i j:Str}:decide (V.str i=V.str j)=(i==j):=by
 rw[vC];simp
theorem Ut{i j:Array UInt8}:decide (V.byt i=V.byt j)=(i.toList==j.toList):=by
 rw[vC];cases i;cases j;simp
section
variable {X:Cx}{a b c:Expr}{ta tb tc:TE}{pos:Pos}
theorem y6{pins:List (Addr×Obj)}{σ:St}{H:Hp}{s:Shared}{Q:VK}{k k':Bool}(I:Inv X pins σ H s)(q:Q (.bl k) H)(e:k=k'):EP X pins σ Q (.bool k') s:=by
 subst e;exact⟨.bl k,H,I,rfl,q⟩
theorem Ee:OpR X (compareOp .Eq) rEq:=by
 intro pins s σ H x y v u Q I rx ry h;obtain⟨hs,q⟩:=h;cases x with
 |non =>
  cases rx;cases y with
  |non=>cases ry;exact PySem.EqNone.eq_none_none (y6 I q (by simp))
  |bl j=>cases ry;exact PySem.EqNone.eq_none_bool (y6 I q (by simp))
  |int j=>obtain⟨t',rfl⟩:=ry;exact PySem.EqNone.eq_none_int (y6 I q (by simp))
  |str j=>obtain⟨t',rfl⟩:=ry;exact PySem.EqNone.eq_none_str (y6 I q (by simp))
  |_=>exact absurd (show false=true from hs) zH
 |bl i =>
  cases rx;cases y with
  |non=>cases ry;exact PySem.EqNone.eq_bool_none (y6 I q (by simp))
  |bl j=>cases ry;exact eq_bool (y6 I q Oi)
  |str j=>obtain⟨t',rfl⟩:=ry;exact PySem.EqMixed.eq_bool_str (y6 I q (by simp))
  |_=>exact absurd (show false=true from hs) zH
 |int i =>
  obtain⟨t,rfl⟩:=rx;cases y with
  |non=>cases ry;exact PySem.EqNone.eq_int_none (y6 I q (by simp))
  |int j=>obtain⟨t',rfl⟩:=ry;exact eq_int (y6 I q Uu)
  |str j=>obtain⟨t',rfl⟩:=ry;exact PySem.EqMixed.eq_int_str (y6 I q (by simp))
  |_=>exact absurd (show false=true from hs) zH
 |str i =>
  obtain⟨t,rfl⟩:=rx;cases y with
  |non=>cases ry;exact PySem.EqNone.eq_str_none (y6 I q (by simp))
  |bl j=>cases ry;exact PySem.EqMixed.eq_str_bool (y6 I q (by simp))
  |int j=>obtain⟨t',rfl⟩:=ry;exact PySem.EqMixed.eq_str_int (y6 I q (by simp))
  |str j=>obtain⟨t',rfl⟩:=ry;exact eq_str (y6 I q Uv)
  |_=>exact absurd (show false=true from hs) zH
 |byt i =>
  obtain⟨t,rfl⟩:=rx;cases y with
  |byt j=>obtain⟨t',rfl⟩:=ry;exact W.eq_bytes (y6 I q Ut)
  |_=>exact absurd (show false=true from hs) zH
 |_=>cases y<;>exact absurd (show false=true from hs) zH
theorem Eh:OpR X (compareOp .NotEq) rNe:=by
 intro pins s σ H x y v u Q I rx ry h;obtain⟨hs,q⟩:=h;cases x with
 |non =>
  cases rx;cases y with
  |non=>cases ry;exact PySem.EqNone.ne_none_none (y6 I q (by simp))
  |bl j=>cases ry;exact PySem.EqNone.ne_none_bool (y6 I q (by simp))
  |int j=>obtain⟨t',rfl⟩:=ry;exact PySem.EqNone.ne_none_int (y6 I q (by simp))
  |str j=>obtain⟨t',rfl⟩:=ry;exact PySem.EqNone.ne_none_str (y6 I q (by simp))
  |_=>exact absurd (show false=true from hs) zH
 |bl i =>
  cases rx;cases y with
  |non=>cases ry;exact PySem.EqNone.ne_bool_none (y6 I q (by simp))
  |bl j=>cases ry;exact ne_bool (y6 I q (xH not Oi))
  |str j=>obtain⟨t',rfl⟩:=ry;exact PySem.EqMixed.ne_bool_str (y6 I q (by simp))
  |_=>exact absurd (show false=true from hs) zH
 |int i =>
  obtain⟨t,rfl⟩:=rx;cases y with
  |non=>cases ry;exact PySem.EqNone.ne_int_none (y6 I q (by simp))
  |int j=>obtain⟨t',rfl⟩:=ry;exact ne_int (y6 I q (xH not Uu))
  |str j=>obtain⟨t',rfl⟩:=ry;exact PySem.EqMixed.ne_int_str (y6 I q (by simp))
  |_=>exact absurd (show false=true from hs) zH
 |str i =>
  obtain⟨t,rfl⟩:=rx;cases y with
  |non=>cases ry;exact PySem.EqNone.ne_str_none (y6 I q (by simp))
  |bl j=>cases ry;exact PySem.EqMixed.ne_str_bool (y6 I q (by simp))
  |int j=>obtain⟨t',rfl⟩:=ry;exact PySem.EqMixed.ne_str_int (y6 I q (by simp))
  |str j=>obtain⟨t',rfl⟩:=ry;exact ne_str (y6 I q (xH not Uv))
  |_=>exact absurd (show false=true from hs) zH
 |byt i =>
  obtain⟨t,rfl⟩:=rx;cases y with
  |byt j=>obtain⟨t',rfl⟩:=ry;exact W.ne_bytes (y6 I q (xH not Ut))
  |_=>exact absurd (show false=true from hs) zH
 |_=>cases y<;>exact absurd (show false=true from hs) zH
theorem Eg:OpR X (compareOp .Lt) (rI0 λi j=>.bl (decide (i<j))):=Ed λ_ _ _ _ _ _ _ q=>lt_int q
theorem Ef:OpR X (compareOp .Gt) (rI0 λi j=>.bl (decide (j<i))):=Ed λ_ _ _ _ _ _ _ q=>gt_int q
theorem ze(b:Expr){op:CmpOp}(h:op≠.In:=by decide)(h2:op≠.NotIn:=by decide):behindInMarks op b=false:=by
 have e1:(op==CmpOp.In)=false:=by cases op<;>first|rfl|exact absurd rfl h
 have e2:(op==CmpOp.NotIn)=false:=by cases op<;>first|rfl|exact absurd rfl h2
 cases b<;>simp[behindInMarks,e1,e2]
theorem va{op:CmpOp}{r:R2}(ho:OpR X (compareOp op) r)(ha:PE X a ta)(hb:PE X b tb)(hm:behindInMarks op b=false):PE X (.Compare a [op] [b] pos) (tOp r ta tb):=by
 intro pins s σ H Q I h;exact wpAny_Compare1 (Gk ha hb I h λv u s2 x y H2 I2 rx ry q=>ho pins s2 σ H2 x y v u Q I2 rx ry q) hm
theorem gc:(sizeLine:Nat)<2 ^ 63:=by rw[yZ];decide
theorem Xl:OpR X (binaryOp .Add) (λx y H Q=>∃i j,x = .str i/\y = .str j/\i.length+j.length<=sizeLine/\Q (.str (i++j)) H):=by
 intro pins s σ H x y v u Q I rx ry h;obtain⟨i,j,rfl,rfl,hz,q⟩:=h;obtain⟨t,rfl⟩:=rx;obtain⟨t',rfl⟩:=ry;exact add_str (λt' tk=>⟨.str (i++j),H,I.tok _,⟨_,rfl⟩,q⟩) hz
theorem qk{x:V}{us:List Value}(r:Vals [x] us):∃u,us=[u]/\RelV x u:=by
 cases r with
 |cons r1 r2=>cases r2;exact⟨_,rfl,r1⟩
theorem lj{x y:V}{us:List Value}(r:Vals [x,y] us):∃u w',us=[u,w']/\RelV x u/\RelV y w':=by
 cases r with
 |cons r1 r2 =>
  cases r2 with
  |cons r3 r4=>cases r4;exact⟨_,_,rfl,r1,r3⟩
theorem R8(hc:X.calm=true):vf X (.builtin "max") (λxs H Q=>∃i j,xs=[.int i,.int j]/\Q (.int (if j>i then j else i)) H):=by
 intro pins s σ H xs us Q I r h;obtain⟨i,j,rfl,q⟩:=h;obtain⟨u,w',rfl,⟨t,rfl⟩,⟨t',rfl⟩⟩:=lj r;refine max_two_ints (I.ok.hd hc) λh' tk k=>⟨_,H,I.kept k,?_,q⟩
 by_cases hj:j>i
 ·rw[zG hj,zG hj];exact⟨_,rfl⟩
 ·rw[zM hj,zM hj];exact⟨_,rfl⟩
theorem R9(hc:X.calm=true):vf X (.builtin "min") (λxs H Q=>∃i j,xs=[.int i,.int j]/\Q (.int (if j<i then j else i)) H):=by
 intro pins s σ H xs us Q I r h;obtain⟨i,j,rfl,q⟩:=h;obtain⟨u,w',rfl,⟨t,rfl⟩,⟨t',rfl⟩⟩:=lj r;refine min_two_ints (I.ok.hd hc) λh' tk k=>⟨_,H,I.kept k,?_,q⟩
 by_cases hj:j<i
 ·rw[zG hj,zG hj];exact⟨_,rfl⟩
 ·rw[zM hj,zM hj];exact⟨_,rfl⟩
end
end L2
namespace L2
open PySem PySem.Spec PyProof.Rows
structure ObjM(h:Heap)(x dx C:Addr)(mA:Str->Option Value):Prop where
 obj:h.get? x=some (W.instObj C dx)
 ns:h.Ns1 dx mA
 ne:dx≠x
theorem b8{h:Heap}{dx:Addr}{mA:Str->Option Value}(n:h.Ns1 dx mA):∃od,h.get? dx=some od/\∀name,W.lookIn name od=some (mA name):=by
 obtain⟨o,es,ep,ho,hd,hk,_,hm⟩:=n;refine⟨o,ho,λname=>?_⟩;have e:=hm name;unfold nsFind findBy at e;rw[<-Array.find?_toList]at e;unfold W.lookIn;rw[hd];dsimp only;split
 ·rename_i y q;rw[q]at e;exact xH some e
 ·rename_i q;rw[q]at e;have a:es.toList.any (·.refKey)=false:=by
   rw[List.any_eq_false];intro y hy;obtain⟨z,t,DE⟩:=hk y (Array.mem_toList_iff.mp hy);simp[DictEntry.refKey,DE]
  have a':¬es.toList.any (·.refKey)=true:=by rw[a];exact zH
  rw[zM a'];exact xH some e
theorem ObjM.look{h:Heap}{x dx C:Addr}{mA:Str->Option Value}(I:ObjM h x dx C mA):∃od,W.InstAt h x (W.instObj C dx) C (some od)/\∀name,W.lookIn name od=some (mA name) :=
 let⟨od,ho,hl⟩:=b8 I.ns
 ⟨od,⟨I.obj,rfl,rfl,ho⟩,hl⟩
section
variable {prog:Program}{w:World}{A:Around}{E:Value->Shared->Prop}{s:Shared}{K:W.Frag}{x dx C f:Addr}{mA:Str->Option Value}{name:Str}{v:Value}
theorem Lk{expr:Bool}{Q:Value->Shared->Prop}(X:K.In s.heap)(I:ObjM s.heap x dx C mA)(hg:W.plainGet K C name=true)(hh:W.hasDictIn K C=true)
  (ha:W.findIn K (.ref C) name=some none) (hv:mA name=some v) (DA:W.handedIn v=true) (h:Q v { s with toks:=s.toks+1 }) :
  wpAny (model prog w) A (getAttr (.ref x) name expr) Q E s:=by
 obtain⟨od,J,hl⟩:=I.look;exact W.get_value X J (W.plainGet_of hg).1 (W.findObj_own hh ha rfl (by rw[hl,hv])) DA h
theorem Op{pl:Sem Bool}{Q:Value×List Value->Shared->Prop}(X:K.In s.heap)(I:ObjM s.heap x dx C mA)(hg:W.plainGet K C name=true)
  (hf:W.findIn K (.ref C) name=some (some (.ref f))) (ht:W.isFn K (.ref f)=true) (hv:mA name=none) (h:Q (.ref f,[.ref x]) s) :
  wpAny (model prog w) A (getMethod (.ref x) name pl) Q E s:=by
 obtain⟨od,J,hl⟩:=I.look;exact W.method_fn X J (W.plainGet_of hg).1 (W.plainGet_of hg).2 hf (wM.mp ht) (by show(W.lookIn name od).map (·.isSome)=some false;rw[hl,hv];rfl) h
theorem Na{ns:List Str}{Q:Unit->Shared->Prop}(X:K.In s.heap)(I:ObjM s.heap x dx C mA)
  (hs:W.findIn K (.ref C) "__setattr__"=some (some (.builtin "object.__setattr__"))) (hp:W.plainOver K C=true) (ht:W.takerIn K C name=some none) (hh:W.hasDictIn K C=true)
  (hw:PySem.Within mA ns) (bY:ns.length<=sizeLine)
  (h:∀h',ObjM h' x dx C (λy=>if y=name then some v else mA y)->Heap.SameBut dx s.heap h'->Q () { s with heap:=h',toks:=s.toks+2 }) :
  wpAny (model prog w) A (setAttr (.ref x) name v) Q E s:=by
 obtain⟨od,J,hl⟩:=I.look;refine W.set_plain X J hs (W.osa_open (s:={ s with toks:=s.toks+1 }) (r:=none) X J hp ht λb=>?_);obtain⟨cd,hc,AQ⟩:=W.any_some hh;have hx:s.heap.get? x=some ⟨.ref C,some dx,.plain,#[]⟩:=I.obj;refine zZ (zW (zZ (zZ (wpAny_loadPart hx (zZ (W.Looks.here (s:={ s with toks:=s.toks+1 }) (W.looks_clsIn X hc) ?_))))));rw[AQ];refine zW (a:=some dx) (zZ (zW (zZ ?_)));refine wpAny_nsSet1 (s:={ s with toks:=s.toks+1 }) I.ns λh' CO oM=>?_;obtain⟨oD,esD,epD,hoD,hdD,BU⟩:=CO.count (PySem.Within.cons name v hw);refine zZ (wpAny_lookBehind hoD (by rw[hdD];exact pastItsLine_dict (yQ BU (by rw[yL];lia))) ?_);exact zW (h _ ⟨(oM.2 _ (wU I.ne)).trans I.obj,CO,I.ne⟩ oM)
theorem Pj{R:Result->Shared->Prop}{vs:List Value}{kw:List (Str×Value)}(X:K.In s.heap)(hm:W.makesIn K C=true)
  (hi:W.findIn K (.ref C) "__init__"=some (some (.ref f))) (hf:W.typeIn K (.ref f)=some (.type "function"))
  (h:codeAny (model prog w) (A.under (.builtin "type.__call__" ⟨.ref C::vs,kw⟩)) (.call (.ref f) ⟨.ref (s.heap.objs.size+1)::vs,kw⟩) (W.InitBack (s.heap.objs.size+1) R)
   { s with heap:=(s.heap.push W.emptyDict).push (W.instObj C s.heap.objs.size) }) :
  codeAny (model prog w) A (.call (.ref C) ⟨vs,kw⟩) R s:=by
 obtain⟨hh,g,d,t,os⟩:=s;exact W.make_core (W.makes_of X hm) (W.looks_findIn X hi) (λself=>W.bind_fn X self hf) (.inl rfl) h
end
def sk(f:Str)(v:V):List (Str×V)->List (Str×V)
 |[]=>[(f,v)]
 |(g,x)::r=>if g=f then(g,v)::r else(g,x)::sk f v r
theorem my(f g:Str)(v:V):∀fs:List (Str×V),(sk f v fs).lookup g=if g=f then some v else fs.lookup g
 |[]=>by
  show List.lookup g [(f,v)]=_
  by_cases h:g=f
  ·have hb:(g==f)=true:=wM.mpr h;simp only[List.lookup,hb,zG h]
  ·have hb:(g==f)=false:=xR.mpr h;simp only[List.lookup,hb,zM h]
 |(k,x)::r=>by
  have ih:=my f g v r;rw[show sk f v ((k,x)::r)=(if k=f then(k,v)::r else(k,x)::sk f v r)from rfl]
  by_cases hk:k=f
  ·rw[zG hk]
   by_cases h:g=k
   ·have hb:(g==k)=true:=wM.mpr h;simp only[List.lookup,hb,zG (h.trans hk)]
   ·have hb:(g==k)=false:=xR.mpr h;simp only[List.lookup,hb,zM (λe:g=f=>h (e.trans hk.symm))]
  ·rw[zM hk]
   by_cases h:g=k
   ·have hb:(g==k)=true:=wM.mpr h;simp only[List.lookup,hb,zM (λe:g=f=>hk (h.symm.trans e))]
   ·have hb:(g==k)=false:=xR.mpr h;simp only[List.lookup,hb];exact ih
theorem nw(f:Str)(v:V):∀fs:List (Str×V),f∈(sk f v fs).map (·.1)/\∀g,g∈fs.map (·.1)->g∈(sk f v fs).map (·.1)
 |[]=>⟨by simp[sk],λg h=>by simp at h⟩
 |(k,x)::r=>by
  obtain⟨i1,i2⟩:=nw f v r;rw[show sk f v ((k,x)::r)=(if k=f then(k,v)::r else(k,x)::sk f v r)from rfl]
  by_cases hk:k=f
  ·rw[zG hk];subst hk;exact⟨by simp,λg h=>by simpa using h⟩
  ·rw[zM hk];refine⟨?_,λg h=>?_⟩
   ·rw[List.map_cons];exact zO _ i1
   ·rw[List.map_cons]at h ⊢;rcases zL.mp h with e|e
    ·exact zL.mpr (.inl e)
    ·exact zO _ (i2 g e)
theorem ms(f:Str)(v:V):∀fs:List (Str×V),(sk f v fs).length<=fs.length+1
 |[]=>by simp[sk]
 |(k,x)::r=>by
  have ih:=ms f v r;rw[show sk f v ((k,x)::r)=(if k=f then(k,v)::r else(k,x)::sk f v r)from rfl]
  by_cases hk:k=f
  ·rw[zG hk,yL,yL];lia
  ·rw[zM hk,yL,yL];lia
theorem RelO.some_of{v:V}{o:Option Value}(r:RelO (some v) o):∃u,o=some u/\RelV v u:=by
 cases o with
 |none=>exact(show False from r).elim
 |some u=>exact⟨u,rfl,r⟩
theorem RelO.none_of{o:Option Value}(r:RelO none o):o=none:=by
 cases o with
 |none=>rfl
 |some u=>exact(show False from r).elim
theorem Sj{v:V}{u:Value}(r:RelV v u):W.handedIn u=true:=by
 cases v with
 |non=>cases(show u=Value.none from r);rfl
 |bl b=>cases(show u=Value.bool b from r);rfl
 |int i=>obtain⟨t,e⟩:=(show∃t,u=Value.int i t from r);cases e;rfl
 |str x=>obtain⟨t,e⟩:=(show∃t,u=Value.str x t from r);cases e;rfl
 |byt b=>obtain⟨t,e⟩:=(show∃t,u=Value.bytes b t from r);cases e;rfl
 |flt b=>obtain⟨t,e⟩:=(show∃t,u=Value.float b t from r);cases e;rfl
 |ref a=>cases(show u=Value.ref a from r);rfl
 |ty n=>cases(show u=Value.type n from r);rfl
section
variable {P:Program}{w:World}{H H':Hp}{h h':Heap}{a C dx:Addr}{fs fs':List (Str×V)}
theorem lx(hok:HOk P w H h)(e:H a=some (.ins C dx fs)):∃mA,ObjM h a dx C mA/\(∀f,RelO (fs.lookup f) (mA f))/\PySem.Within mA (fs.map (·.1))/\fs.length<=1000/\H dx=some (.own a):=by
 obtain⟨d,z,ne,ob,mA,n,r,q⟩:=(show ObjOk P w H h a (.ins C dx fs)from hok a _ e)
 exact⟨mA,⟨ob,n,ne⟩,r,q,z,d⟩
end
structure Cls(K:W.Frag)(C:Addr):Prop where
 pg:W.plainGet K C Str.empty=true
 hd:W.hasDictIn K C=true
 po:W.plainOver K C=true
 sa:W.findIn K (.ref C) "__setattr__"=some (some (.builtin "object.__setattr__"))
theorem Cls.get{K:W.Frag}{C:Addr}(c:Cls K C)(f:Str):W.plainGet K C f=true:=c.pg
def NoAttr(K:W.Frag)(C:Addr)(f:Str):Prop:=W.findIn K (.ref C) f=some none
theorem NoAttr.taker{K:W.Frag}{C:Addr}{f:Str}(n:NoAttr K C f):W.takerIn K C f=some none:=by
 unfold W.takerIn;rw[show W.findIn K (.ref C) f=some none from n]
 rfl
structure Con(K:W.Frag)(C:Addr)(f:Str)(v:V)(u:Value):Prop where
 at_:W.findIn K (.ref C) f=some (some u)
 rel:RelV v u
 get:W.specialIn K u "__get__"=some none
 cp:W.copiedNames.contains f=false
structure R3(K:W.Frag)(C:Addr)(m:Str)(f:Addr):Prop where
 at_:W.findIn K (.ref C) m=some (some (.ref f))
 fn:W.isFn K (.ref f)=true
 kp:W.keepIn K (.ref f)=true
section
variable {X:Cx}{pins:List (Addr×Obj)}{σ:St}{H:Hp}{s:Shared}{a C dx:Addr}{fs:List (Str×V)}{f:Str}{v:V}{A:Around}{E:Value->Shared->Prop}
theorem Wi{b:Bool}{Q:Value->Shared->Prop}(I:Inv X pins σ H s)(e:H a=some (.ins C dx fs))(c:Cls X.K C)(n:NoAttr X.K C f)(l:fs.lookup f=some v)
  (h:∀u s',Inv X pins σ H s'->RelV v u->Q u s'):wpAny (model X.prog X.w) A (getAttr (.ref a) f b) Q E s:=by
 obtain⟨mA,O,r,_,_,_⟩:=lx I.hok e;obtain⟨u,hu,ru⟩:=RelO.some_of (v:=v) (o:=mA f) (by rw[<-l];exact r f);exact Lk I.kIn O (c.get f) c.hd n hu (Sj ru) (h u _ (I.tok _) ru)
theorem fq{m:Str}{g:Addr}{pl:Sem Bool}{Q:Value×List Value->Shared->Prop}(I:Inv X pins σ H s)(e:H a=some (.ins C dx fs))(c:Cls X.K C)(k:R3 X.K C m g)(l:fs.lookup m=none)
  (h:Q (.ref g,[.ref a]) s):wpAny (model X.prog X.w) A (getMethod (.ref a) m pl) Q E s:=by
 obtain⟨mA,O,r,_,_,_⟩:=lx I.hok e;have hn:mA m=none:=RelO.none_of (by rw[<-l];exact r m);exact Op I.kIn O (c.get m) k.at_ k.fn hn h
theorem Xw{y:V}{u:Value}{Q:Unit->Shared->Prop}(I:Inv X pins σ H s)(e:H a=some (.ins C dx fs))(c:Cls X.K C)(n:NoAttr X.K C f)(hl:fs.length<1000)(ry:RelV y u)
  (h:∀s',Inv X pins σ (upd H a (.ins C dx (sk f y fs))) s'->Q () s'):wpAny (model X.prog X.w) A (setAttr (.ref a) f u) Q E s:=by
 obtain⟨mA,O,r,wi,_,ho⟩:=lx I.hok e;have hz:(fs.map (·.1)).length<=sizeLine:=by rw[zV,yZ];lia
 refine Na I.kIn O c.sa c.po n.taker c.hd wi hz λh' O' sb=>h _ ?_;have hd:∃o,h'.get? dx=some o:=let⟨o,_,_,e',_⟩:=O'.ns;⟨o,e'⟩;refine I.write (x:=a) (e:=dx) (by rw[e];exact True.intro) (.inr ho) (λb q hb z=>(sb.2 b hb).trans z) hd ?_;refine⟨by rw[zj O.ne];exact ho,?_,O.ne,O'.obj,_,O'.ns,λg=>?_,λg hg=>?_⟩
 ·have:=ms f y fs;lia
 ·show RelO ((sk f y fs).lookup g) (if g=f then some u else mA g);rw[my]
  by_cases q:g=f
  ·rw[zG q,zG q];exact ry
  ·rw[zM q,zM q];exact r g
 ·by_cases q:g=f
  ·rw[q];exact(nw f y fs).1
  ·refine(nw f y fs).2 g (wi g λz=>hg ?_);show(if g=f then some u else mA g)=none;rw[zM q];exact z
theorem Inv.made(I:Inv X pins σ H s):Inv X pins σ (upd (upd H s.heap.objs.size (.own (s.heap.objs.size+1))) (s.heap.objs.size+1) (.ins C s.heap.objs.size []))
  { s with heap:=(s.heap.push W.emptyDict).push (W.instObj C s.heap.objs.size) }:=by
 have e1:(s.heap.push W.emptyDict).get? s.heap.objs.size=some W.emptyDict:=zS s.heap rfl;have e2:((s.heap.push W.emptyDict).push (W.instObj C s.heap.objs.size)).get? (s.heap.objs.size+1)=some (W.instObj C s.heap.objs.size):=by
  have:=zS (s.heap.push W.emptyDict) (o:=W.instObj C s.heap.objs.size) rfl
  rwa [xK]at this
 have e3:(s.heap.push W.emptyDict).Ns s.heap.objs.size (λ_=>none):=⟨W.emptyDict,#[],_,e1,rfl,(λe he=>absurd he (by simp)),λ_=>rfl⟩
 have I1:=I.laid (a:=s.heap.objs.size) (o:=.own (s.heap.objs.size+1)) (h':=s.heap.push W.emptyDict) (t':=s.toks) (λb u q=>zY _ q) (zT _) ⟨_,e1⟩;refine I1.laid (a:=s.heap.objs.size+1) (o:=.ins C s.heap.objs.size []) (t':=s.toks) (λb u q=>zY _ q) (uH (xK _ _)) ?_;have ne:s.heap.objs.size≠s.heap.objs.size+1:=zC (xF _);refine⟨by rw[zj ne,zu],yJ _,ne,e2,λ_=>none,(Heap.Ns1.of_empty e3).at λo q=>zY _ q,λ_=>True.intro,λy hy=>absurd rfl hy⟩
theorem Lc{prog:Program}{w:World}{env:Env}{e:Expr}{f:Str}{pos:Pos}{s:Shared}{Q:Value->Shared->Prop}(hb:attributeBase e f env (eval e env)=eval e env)
  (h:wpAny (model prog w) A (eval e env) (λo s₁=>wpAny (model prog w) A (getAttr o f true) Q E s₁) E s):wpAny (model prog w) A (eval (.Attribute e f pos) env) Q E s :=
 Attribute_any_ h (by rw[arm_eval_Attribute,hb])
end
def Fv(K:W.Frag)(ta:TE)(f:Str):TE:=fun σ H Q=>ta σ H λx H1=>∃a C dx fs v,x = .ref a/\H1 a=some (.ins C dx fs)/\Cls K C/\NoAttr K C f/\fs.lookup f=some v/\Q v H1
def Fg(K:W.Frag)(ta tv:TE)(f:Str):TS:=λD σ H=>tv σ H λy H1=>ta σ H1 λx H2=>∃a C dx fs,x = .ref a/\H2 a=some (.ins C dx fs)/\Cls K C/\NoAttr K C f/\fs.length<1000 /\
 D.nx σ (upd H2 a (.ins C dx (sk f y fs)))
section
variable {X:Cx}{o e value:Expr}{f:Str}{pos jW tpos:Pos}{ta tv:TE}
theorem w8(he:PE X e ta)(hb:attributeBase e f X.env (eval e X.env)=eval e X.env):PE X (.Attribute e f pos) (Fv X.K ta f):=by
 intro pins s σ H Q I h;refine Lc hb (thn (he pins s σ H _ I h) λu s1 ⟨x,H1,I1,rx,a,C,dx,fs,v,ex,ea,c,n,l,q⟩=>?_);subst ex;obtain rfl:u=Value.ref a:=rx;exact Wi I1 ea c n l λu' s2 I2 ru=>⟨v,H1,I2,ru,q⟩
theorem oi(ha:PE X o ta)(hv:PE X value tv)(hs:swapsWith value (some (.Attribute o f jW)) pos.line X.env=pure false):PS X (.Assign [.Attribute o f jW] value pos) (Fg X.K ta tv f):=by
 intro pins s σ H D I h;refine plainObj_wpAny_Assign_Attribute (thn (hv pins s σ H _ I h) λu s1 ⟨y,H1,I1,ry,q⟩=>thn (ha pins s1 σ H1 _ I1 q) λov s2 ⟨x,H2,I2,rx,a,C,dx,fs,ex,ea,c,n,l,q2⟩=>?_) hs;subst ex;obtain rfl:ov=Value.ref a:=rx;exact Xw I2 ea c n l ry λs3 I3=>⟨σ,_,I3,q2⟩
end
section
variable {X:Cx}{pins:List (Addr×Obj)}{σ:St}{H:Hp}{s:Shared}{A:Around}{E:Value->Shared->Prop}{Q:Value->Shared->Prop}{c:Value}{b:Bool}
inductive TyOf (K:W.Frag) (H:Hp):V->Value->Prop where
 |non:TyOf K H .non (.type "NoneType")
 |bl (x:Bool):TyOf K H (.bl x) (.type "bool")
 |int (i:Int):TyOf K H (.int i) (.type "int")
 |str (x:Str):TyOf K H (.str x) (.type "str")
 |flt (x:UInt64):TyOf K H (.flt x) (.type "float")
 |lst {a:Addr}{xs:List V} (e:H a=some (.lst xs)):TyOf K H (.ref a) (.type "list")
 |frz {a:Addr}{o:Obj}{xs:List V} (e:H a=some (.frz o (.lst xs))):TyOf K H (.ref a) (.type "list")
 |tup {a:Addr}{xs:List V} (e:H a=some (.tup xs)):TyOf K H (.ref a) (.type "tuple")
 |dK {a:Addr}{kvs:List (Key×V)} (e:H a=some (.dK kvs)):TyOf K H (.ref a) (.type "dict")
 |dT {a:Addr}{kvs:List (List Key×V)} (e:H a=some (.dT kvs)):TyOf K H (.ref a) (.type "dict")
 |ins {a C dx:Addr}{fs:List (Str×V)} (e:H a=some (.ins C dx fs)) (cl:Cls K C) (ha:W.findIn K (.ref C) "__class__"=some (some (.builtin "object.__class__")))
   (hn:W.specialIn K (.builtin "object.__class__") "__get__"=some (some (.builtin "getset_descriptor.__get__"))) (htk:W.takesIn K (.builtin "object.__class__")=some true)
   (hm:W.mroIn K C (.type "object")=some true):TyOf K H (.ref a) (.ref C)
theorem So{x:V}{u t:Value}(I:Inv X pins σ H s)(rx:RelV x u)(ty:TyOf X.K H x t)(e:W.kitOne X.K t c=some b)(h:∀tk,Q (.bool b) { s with toks:=tk }):
  wpAny (model X.prog X.w) A (call (.builtin "isinstance") [u,c]) Q E s:=by
 cases ty with
 |non=>cases(show u=Value.none from rx);exact xN W.kitx_none I.kIn True.intro e (λz=>nomatch z) h
 |bl y=>cases(show u=Value.bool y from rx);exact xN W.kitx_bool I.kIn True.intro e (λz=>nomatch z) h
 |int i=>obtain⟨t,q⟩:=(show∃t,u=Value.int i t from rx);cases q;exact xN W.kitx_int I.kIn True.intro e (λz=>nomatch z) h
 |str y=>obtain⟨t,q⟩:=(show∃t,u=Value.str y t from rx);cases q;exact xN W.kitx_str I.kIn True.intro e (λz=>nomatch z) h
 |flt y=>obtain⟨t,q⟩:=(show∃t,u=Value.float y t from rx);cases q;exact xN W.kitx_float I.kIn True.intro e (λz=>nomatch z) h
 | @lst a xs ea =>
  cases(show u=Value.ref a from rx);obtain⟨_,_,n,_,h1⟩:=(show ObjOk X.prog X.w H s.heap a (.lst xs)from I.hok a _ ea)
  exact xN W.kitx_list I.kIn ⟨_,h1,rfl⟩ e (λz=>nomatch z) h
 | @frz a ob xs ea =>
  cases(show u=Value.ref a from rx);obtain⟨_,_,_,n,_,h1⟩:=(show ObjOk X.prog X.w H s.heap a (.frz ob (.lst xs))from I.hok a _ ea)
  exact xN W.kitx_list I.kIn ⟨_,h1,rfl⟩ e (λz=>nomatch z) h
 | @tup a xs ea =>
  cases(show u=Value.ref a from rx);obtain⟨_,_,_,p⟩:=(show ObjOk X.prog X.w H s.heap a (.tup xs)from I.hok a _ ea)
  obtain⟨o,h1,h2,_⟩:=p;exact xN W.kitx_tuple I.kIn ⟨o,h1,h2⟩ e (λz=>nomatch z) h
 | @dK a kvs ea =>
  cases(show u=Value.ref a from rx);obtain⟨_,_,vs,_,p⟩:=(show ObjOk X.prog X.w H s.heap a (.dK kvs)from I.hok a _ ea)
  obtain⟨o,es,ep,h1,h2,_⟩:=p;exact xN W.kitx_dict I.kIn ⟨o,h1,h2.1⟩ e (λz=>nomatch z) h
 | @dT a kvs ea =>
  cases(show u=Value.ref a from rx);obtain⟨_,_,xs,_,o,es,ep,h1,h2,_⟩:=(show ObjOk X.prog X.w H s.heap a (.dT kvs)from I.hok a _ ea)
  exact xN W.kitx_dict I.kIn ⟨o,h1,h2.1⟩ e (λz=>nomatch z) h
 | @ins a C dx fs ea cl ha hn htk hm =>
  cases(show u=Value.ref a from rx);obtain⟨mA,O,_⟩:=lx I.hok ea;obtain⟨od,J,_⟩:=O.look;exact xN (W.kitx_own (cl.get _) cl.hd ha hn htk hm) I.kIn J e (λz=>nomatch z) h
end
end L2
namespace L2
open PySem PySem.Spec PyProof.Rows
structure Room(k:Nat)(A:Around):Prop where
 hd:A.handled=none
 dp:A.depth+3*k+5<recursionLimit
 un:A.units+16*k+200<cLine
theorem Room.mono{j k:Nat}{A:Around}(r:Room k A)(h:j<=k):Room j A:=⟨r.hd,by have:=r.dp;lia,by have:=r.un;lia⟩
theorem Room.deeper{k:Nat}{A:Around}(r:Room (k+1) A)(env:Env):Room k (A.deeper env) :=
 ⟨r.hd,by have:=r.dp;show A.depth+1+3*k+5<_;lia,by have:=r.un;show A.units+3+16*k+200<_;lia⟩
theorem W3{A:Around}{C:Addr}{us:List Value}{kw:List (Str×Value)}:(A.under (.builtin "type.__call__" ⟨.ref C::us,kw⟩)).depth=A.depth+1:=by
 first|rfl|simp[Around.under,Code.weight,Code.isCreation,Code.isGuard,Code.isCaller,Code.frames,Code.isFrame,guardIds]
theorem W4{A:Around}{C:Addr}{us:List Value}{kw:List (Str×Value)}:(A.under (.builtin "type.__call__" ⟨.ref C::us,kw⟩)).units=A.units+1:=by
 first|rfl|simp[Around.under,Code.cUnits,Code.frames,Code.isFrame]
theorem Room.make{k:Nat}{A:Around}(r:Room (k+1) A)(C:Addr)(us:List Value)(kw:List (Str×Value)):Room k (A.under (.builtin "type.__call__" ⟨.ref C::us,kw⟩)) :=
 ⟨r.hd,by have:=r.dp;rw[W3];lia,by have:=r.un;rw[W4];lia⟩
theorem Room.depth{k:Nat}{A:Around}(r:Room k A):A.depth<recursionLimit:=by have:=r.dp;lia
theorem Room.units{k:Nat}{A:Around}(r:Room k A):A.units+64<cLine:=by have:=r.un;lia
def T8:TA:=λ_ H Q=>Q [] H
def np(ta:TE)(tr:TA):TA:=fun σ H Q=>ta σ H λx H1=>tr σ H1 λxs H2=>Q (x::xs) H2
section
variable {X:Cx}{e:Expr}{es:List Expr}{te:TE}{t:TA}{pos:Pos}
theorem z4:PA X [] T8:=λ_ _ _ _ H Q I h=>tN ⟨[],H,I,.nil,h⟩
theorem z9(ha:PE X e te)(hr:PA X es t)(hs:starEach (e::es) X.env=(false,eval e X.env)::starEach es X.env:=by rfl):PA X (e::es) (np te t):=by
 intro pos pins s σ H Q I h;rw[hs];show wpAny _ _ (spliced ((false,eval e X.env)::backTo pos (starEach es X.env))) _ _ s;refine Calls.spliced_cons (thn (ha pins s σ H _ I h) λu s1 ⟨x,H1,I1,r1,q1⟩=>?_);exact thn (hr pos pins s1 σ H1 _ I1 q1) λus s2 ⟨xs,H2,I2,r2,q2⟩=>⟨x::xs,H2,I2,.cons r1 r2,q2⟩
end
abbrev Sp:=List V->Hp->VK->XK->Prop
abbrev CXT:=List Env->Hp->Shared->XK->Value->Shared->Prop
structure Env0(P:Program)(w:World)(K:W.Frag)(mg:Str->Option Value)(base:Heap)(A:Around)(outer:List Env)(s:Shared)(H:Hp):Prop where
 frames:A.frames=some outer
 mod:Mod K mg base
 bs:∀b o,base.get? b=some o->s.heap.get? b=some o/\H b=none
 bsz:base.objs.size<=s.heap.objs.size
 funs:s.heap.FunFrames base outer
 frf:∀b∈frs outer,H b=none
 hok:HOk P w H s.heap
 bare:AllBare s.gens
def CE(outer:List Env)(P:Program)(w:World)(H:Hp)(s:Shared)(Q:VK)(u:Value)(s':Shared):Prop :=
 ∃v H',s'.os=s.os/\AllBare s'.gens/\Un (frs outer) [] H H' s.heap s'.heap/\HOk P w H' s'.heap/\RelV v u/\Q v H'
def CR(CX:CXT)(outer:List Env)(P:Program)(w:World)(H:Hp)(s:Shared)(Q:VK)(E:XK)(r:Result)(s':Shared):Prop :=
 match r with
 | .ok (.ret u)=>CE outer P w H s Q u s'
 | .ok _=>False
 | .error e=>CX outer H s E e s'
structure vc(P:Program)(w:World)(K:W.Frag)(mg:Str->Option Value)(base:Heap)(CX:CXT)(k:Nat)(f:Addr)(fd:FuncData)(ps:List Str)(sp:Sp):Prop where
 len:∀vs H Q E,sp vs H Q E->vs.length=ps.length
 run:∀(A:Around)(outer:List Env)(s:Shared)(H:Hp)(args:Args)(us:List Value)(vs:List V)(Q:VK)(E:XK),Room k A->Env0 P w K mg base A outer s H->BindsTo s fd args (ps.zip us)->Vals vs us->sp vs H Q E ->
  codeAny (model P w) A (.call (.ref f) args) (CR CX outer P w H s Q E) s
theorem Env0.make{P:Program}{w:World}{K:W.Frag}{mg:Str->Option Value}{base:Heap}{A:Around}{outer:List Env}{s:Shared}{H:Hp}(e:Env0 P w K mg base A outer s H)(C:Addr)(us:List Value)(kw:List (Str×Value)):
  Env0 P w K mg base (A.under (.builtin "type.__call__" ⟨.ref C::us,kw⟩)) outer s H:=⟨by first|exact e.frames|(simpa[Around.under,Code.envs,Code.isFrame,pushEnvs]using e.frames),e.mod,e.bs,e.bsz,e.funs,e.frf,e.hok,e.bare⟩
section
variable {X:Cx}{pins:List (Addr×Obj)}{σ:St}{H:Hp}{s s':Shared}
theorem Inv.env0(I:Inv X pins σ H s):Env0 X.prog X.w X.K X.mg X.base X.A X.stack s H :=
 ⟨I.ok.frames,I.ok.mod,I.bs,yQ I.ok.bsz I.sz,I.stack,I.stkFree,I.hok,I.bare⟩
theorem Inv.after{Q:VK}{u:Value}(I:Inv X pins σ H s)(h:CE X.stack X.prog X.w H s Q u s'):EP X pins σ Q u s':=by
 obtain⟨v,H',os,bare,un,hok,r,q⟩:=h;obtain⟨hh,g,d,t,os'⟩:=s';obtain rfl:os'=s.os:=os;exact⟨v,H',I.call (h':=hh) (g':=g) (d':=d) (t':=t) (ch:=[]) un hok bare (λb z=>absurd z (by simp)),r,q⟩
end
def dn(sp:Sp)(nP:List V)(E:XK)(t:TA):TE:=fun σ H Q=>t σ H λvs H1=>sp (vs++nP) H1 Q E
def dq(C:Addr)(m:Str)(sp:Sp)(nP:List V)(E:XK)(ta:TE)(t:TA):TE:=fun σ H Q=>ta σ H λx H1=>∃a dx fs,x = .ref a/\H1 a=some (.ins C dx fs)/\fs.lookup m=none /\
 t σ H1 λvs H2=>sp (x::(vs++nP)) H2 Q E
def Rk(C:Addr)(sp:Sp)(nP:List V)(E:XK)(t:TA):TE:=fun σ H Q=>t σ H λvs H1=>∀x dx,H1 x=none->H1 dx=none->dx≠x ->
 sp (.ref x::(vs++nP)) (upd (upd H1 dx (.own x)) x (.ins C dx [])) (λv H2=>v = .non/\Q (.ref x) H2) E
def Binds(K:W.Frag)(fd:FuncData)(ps:List Str)(ds:List Value):Prop :=
 ∀(s:Shared)(us:List Value),K.In s.heap->(us++ds).length=ps.length->BindsTo s fd ⟨us,[]⟩ (ps.zip (us++ds))
theorem Binds.all{K:W.Frag}{fd:FuncData}{ps:List Str}(h:∀us:List Value,us.length=ps.length->bindArgs fd ⟨us,[]⟩=pure (ps.zip us)):Binds K fd ps []:=λs us _ hl=>by
 rw[List.append_nil]at hl ⊢;exact .of_eq (h us hl)
def wj(CX:CXT)(X:Cx)(E:XK):Prop:=∀(pins:List (Addr×Obj))(σ:St)(H:Hp)(s:Shared)(e:Value)(s':Shared),Inv X pins σ H s->CX X.stack H s E e s'->X.xe e s'
section
variable {X:Cx}{CX:CXT}{k:Nat}{f C:Addr}{fd:FuncData}{ps:List Str}{sp:Sp}{nP:List V}{ds:List Value}{E:XK}{x m:Str}{p pos apos:Pos}{e o:Expr}{es:List Expr}{ta:TE}{t:TA}
theorem Xu{pins:List (Addr×Obj)}{σ:St}{H:Hp}{s:Shared}{Q:VK}{us:List Value}{vs:List V}(F:vc X.prog X.w X.K X.mg X.base CX k f fd ps sp)(hr:Room k X.A)(hb:Binds X.K fd ps ds)(hd:Vals nP ds)(hx:wj CX X E)
  (I:Inv X pins σ H s) (r:Vals vs us) (h:sp (vs++nP) H Q E):wpAny (model X.prog X.w) X.A (call (.ref f) us) (EP X pins σ Q) X.xe s:=by
 have r2:Vals (vs++nP) (us++ds):=r.append hd;have hl:(us++ds).length=ps.length:=by rw[<-r2.length];exact F.len _ _ _ _ h
 refine tU (vP (F.run X.A X.stack s H ⟨us,[]⟩ (us++ds) (vs++nP) Q E hr I.env0 (hb s us I.kIn hl) r2 h) λr s' hq=>?_);cases r with
 |error e=>exact hx pins σ H s e s' I hq
 |ok fl =>
  cases fl with
  |ret u=>exact I.after hq
  |next=>exact False.elim hq
  |brk=>exact False.elim hq
  |cont=>exact False.elim hq
theorem Va(F:vc X.prog X.w X.K X.mg X.base CX k f fd ps sp)(hr:Room k X.A)(hg:Gl X x)(hm:X.mg x=some (.ref f))(hk:W.keepIn X.K (.ref f)=true)(hb:Binds X.K fd ps ds)(hd:Vals nP ds)(hx:wj CX X E)
  (ha:PA X (e::es) t) (kH:(x==("__debug__":Str))=false:=by decide) (he:starEach (e::es) X.env=(false,eval e X.env)::starEach es X.env:=by rfl) (dE:(backTo pos (starEach es X.env)).any (·.1)=false:=by rfl) :
  PE X (.Call (.Name x p) (e::es) [] pos) (dn sp nP E t):=by
 intro pins s σ H Q I h;refine xA (vt I hg hm ?_ kH);refine vZ (h₀:=X.base) I.ok.mod.kin hk (thn (ha pos pins s σ H _ I h) λus s1 ⟨vs,H1,I1,r,q⟩=>⟨I1.kIn,?_⟩) he dE;exact Xu F hr hb hd hx I1 r q
theorem Vb{pl:Sem Bool}(he:PE X o ta)(c:Cls X.K C)(hm:R3 X.K C m f)(F:vc X.prog X.w X.K X.mg X.base CX k f fd ps sp)(hr:Room k X.A)(hb:Binds X.K fd ps ds)(hd:Vals nP ds)(hx:wj CX X E)(ha:PA X (e::es) t)
  (gY:starEach (e::es) X.env=(false,eval e X.env)::starEach es X.env:=by rfl) (dE:(backTo pos (starEach es X.env)).any (·.1)=false:=by rfl)
  (ht:eval (.Call (.Attribute o m apos) (e::es) [] pos) X.env=(do
   let ov <-eval o X.env
   standAt apos.atName
   let(f,first) <-holding [ov] (getMethod ov m pl)
   callWith pos f first (backTo pos (starEach (e::es) X.env)) (backToKw pos (keywordEach [] X.env))):=by rfl) :
  PE X (.Call (.Attribute o m apos) (e::es) [] pos) (dq C m sp nP E ta t):=by
 intro pins s σ H Q I h;refine W.methodCall_KW (pl:=pl) (thn (he pins s σ H _ I h) λu s1 ⟨x,H1,I1,rx,a,dx,fs,ex,ea,l,q⟩=>?_) ht;subst ex;obtain rfl:u=Value.ref a:=rx;refine fq I1 ea c hm l ?_;refine vZ (first:=[.ref a]) (h₀:=X.base) I.ok.mod.kin hm.kp (thn (ha pos pins s1 σ H1 _ I1 q) λus s2 ⟨vs,H2,I2,r,q2⟩=>⟨I2.kIn,?_⟩) gY dE;exact Xu (us:=.ref a::us) (vs:=.ref a::vs) F hr hb hd hx I2 (.cons rfl r) q2
theorem Qg{pl:Sem Bool}(he:PE X o ta)(c:Cls X.K C)(hm:R3 X.K C m f)(F:vc X.prog X.w X.K X.mg X.base CX k f fd ps sp)(hr:Room k X.A)(hb:Binds X.K fd ps ds)(hd:Vals nP ds)(hx:wj CX X E)
  (ht:eval (.Call (.Attribute o m apos) [] [] pos) X.env=(do
   let ov <-eval o X.env
   standAt apos.atName
   let(f,first) <-holding [ov] (getMethod ov m pl)
   callWith pos f first (backTo pos (starEach [] X.env)) (backToKw pos (keywordEach [] X.env))):=by rfl) :
  PE X (.Call (.Attribute o m apos) [] [] pos) (dq C m sp nP E ta T8):=by
 intro pins s σ H Q I h;refine W.methodCall_KW (pl:=pl) (thn (he pins s σ H _ I h) λu s1 ⟨x,H1,I1,rx,a,dx,fs,ex,ea,l,q⟩=>?_) ht;subst ex;obtain rfl:u=Value.ref a:=rx;refine fq I1 ea c hm l ?_;exact W.callWith_K0 (first:=[.ref a]) I1.kIn hm.kp (Xu (us:=[.ref a]) (vs:=[.ref a]) F hr hb hd hx I1 (.cons rfl .nil) q)
structure Mk(K:W.Frag)(C f:Addr):Prop where
 makes:W.makesIn K C=true
 init:W.findIn K (.ref C) "__init__"=some (some (.ref f))
 fn:W.isFn K (.ref f)=true
 kp:W.keepIn K (.ref C)=true
theorem Qw{pins:List (Addr×Obj)}{σ:St}{H:Hp}{s:Shared}{Q:VK}{us:List Value}{vs:List V}(M:Mk X.K C f)(F:vc X.prog X.w X.K X.mg X.base CX k f fd ps sp)(hr:Room (k+1) X.A)(hb:Binds X.K fd ps ds)(hd:Vals nP ds)
  (hx:wj CX X E) (I:Inv X pins σ H s) (r:Vals vs us)
  (h:∀x dx,H x=none->H dx=none->dx≠x->sp (.ref x::(vs++nP)) (upd (upd H dx (.own x)) x (.ins C dx [])) (λv H2=>v = .non/\Q (.ref x) H2) E) :
  wpAny (model X.prog X.w) X.A (call (.ref C) us) (EP X pins σ Q) X.xe s:=by
 have hq:=h (s.heap.objs.size+1) s.heap.objs.size (I.hok.fresh (wK _)) (I.hok.fresh (zT _)) (zC (xF _));have I2:=Inv.made (C:=C) I;have r2:Vals (V.ref (s.heap.objs.size+1)::(vs++nP)) (Value.ref (s.heap.objs.size+1)::(us++ds)):=.cons rfl (r.append hd);have hl:(Value.ref (s.heap.objs.size+1)::us++ds).length=ps.length:=by
  have e:=r2.length;rw[F.len _ _ _ _ hq]at e;exact e.symm
 refine tU (Pj (f:=f) I.kIn M.makes M.init (wM.mp M.fn) (vP (F.run _ X.stack _ _ ⟨Value.ref (s.heap.objs.size+1)::us,[]⟩ (Value.ref (s.heap.objs.size+1)::(us++ds)) _ _ E (hr.make C us [])
  (I2.env0.make C us []) (hb _ (Value.ref (s.heap.objs.size+1)::us) I2.kIn hl) r2 hq) λr s' BM=>?_))
 cases r with
 |error e=>exact hx pins σ _ _ e s' I2 BM
 |ok fl =>
  cases fl with
  |ret u =>
   obtain⟨v,H',I3,rv,ev,q3⟩:=I2.after BM;subst ev;exact⟨rv,⟨V.ref (s.heap.objs.size+1),H',I3,rfl,q3⟩⟩
  |next=>exact False.elim BM
  |brk=>exact False.elim BM
  |cont=>exact False.elim BM
theorem Mq(M:Mk X.K C f)(F:vc X.prog X.w X.K X.mg X.base CX k f fd ps sp)(hr:Room (k+1) X.A)(hg:Gl X x)(hm:X.mg x=some (.ref C))(hb:Binds X.K fd ps ds)(hd:Vals nP ds)(hx:wj CX X E)
  (ha:PA X (e::es) t) (kH:(x==("__debug__":Str))=false:=by decide) (he:starEach (e::es) X.env=(false,eval e X.env)::starEach es X.env:=by rfl) (dE:(backTo pos (starEach es X.env)).any (·.1)=false:=by rfl) :
  PE X (.Call (.Name x p) (e::es) [] pos) (Rk C sp nP E t):=by
 intro pins s σ H Q I h;refine xA (vt I hg hm ?_ kH);refine vZ (h₀:=X.base) I.ok.mod.kin M.kp (thn (ha pos pins s σ H _ I h) λus s1 ⟨vs,H1,I1,r,q⟩=>⟨I1.kIn,?_⟩) he dE;exact Qw M F hr hb hd hx I1 r q
end
section
variable {X:Cx}{CX:CXT}{k:Nat}{f C:Addr}{fd:FuncData}{ps ks:List Str}{sp:Sp}{E:XK}{x m:Str}{p pos apos kpos:Pos}{e o:Expr}{es:List Expr}{kws:List Keyword}{te ta:TE}{t tk:TA}{nm:Option Str}
structure Ah(K:W.Frag)(fd:FuncData)(ps ks:List Str)(g:List Value->List Value->List Value)(gV:List V->List V->List V):Prop where
 to:∀(s:Shared)(us ws:List Value),K.In s.heap->(g us ws).length=ps.length->BindsTo s fd ⟨us,ks.zip ws⟩ (ps.zip (g us ws))
 rel:∀{vs:List V}{us:List Value}{zs:List V}{ws:List Value},Vals vs us->Vals zs ws->Vals (gV vs zs) (g us ws)
variable {g:List Value->List Value->List Value}{gV:List V->List V->List V}
end
structure zm(N P:List Str)(sc:Scope):Prop where
 kind:sc.kind = .function
 co:sc.isCoroutine=false
 gen:sc.isGenerator=false
 nd:N.Nodup
 pre:N.take P.length=P
 par:∀x∈P,sc.names.lookup x=some .local\/sc.names.lookup x=some .cell
 nofree:∀y∈sc.names,y.2≠.free
theorem bi{kindOf:Str->Option NameKind}{x:Str}:∀{qJ:List (Str×Value)}{m:Str->Option Value},(∀v,(x,v)∉qJ)->bindL kindOf qJ m x=m x
 |[],_,_=>rfl
 |(n,v)::r,m,h=>by
  unfold bindL;rw[bi λw hw=>h w (zO _ hw)];split
  ·have:x≠n:=by rintro rfl;exact h v zD
   simp[this]
  ·rfl
theorem bg{kindOf:Str->Option NameKind}{x:Str}:∀{qJ:List (Str×Value)}{m:Str->Option Value},(∀v,(x,v)∉qJ)->bindC kindOf qJ m x=m x
 |[],_,_=>rfl
 |(n,v)::r,m,h=>by
  unfold bindC;rw[bg λw hw=>h w (zO _ hw)];split
  ·rfl
  ·have:x≠n:=by rintro rfl;exact h v zD
   simp[this]
theorem bh{kindOf:Str->Option NameKind}{x:Str}{v:Value}:∀{P:List Str}{vs:List Value}{i:Nat}{m:Str->Option Value},P.Nodup->P[i]?=some x->vs[i]?=some v->kindOf x=some .local ->
  bindL kindOf (P.zip vs) m x=some v
 |[],_,_,_,_,h,_,_=>by simp at h
 |_::_,[],_,_,_,_,h,_=>by simp at h
 |p::P,w::vs,0,m,nd,h1,h2,hk=>by
  simp at h1 h2;subst h1;subst h2;show bindL kindOf ((p,w)::P.zip vs) m p=_;unfold bindL;rw[bi λv hv=>(vB.mp nd).1 (List.of_mem_zip hv).1,zG hk];simp
 |p::P,w::vs,i+1,m,nd,h1,h2,hk=>by
  show bindL kindOf ((p,w)::P.zip vs) m x=_;unfold bindL;exact bh (i:=i) (vB.mp nd).2 (by simpa using h1) (by simpa using h2) hk
theorem bf{kindOf:Str->Option NameKind}{x:Str}{v:Value}:∀{P:List Str}{vs:List Value}{i:Nat}{m:Str->Option Value},P.Nodup->P[i]?=some x->vs[i]?=some v->kindOf x≠some .local ->
  bindC kindOf (P.zip vs) m x=some v
 |[],_,_,_,_,h,_,_=>by simp at h
 |_::_,[],_,_,_,_,h,_=>by simp at h
 |p::P,w::vs,0,m,nd,h1,h2,hk=>by
  simp at h1 h2;subst h1;subst h2;show bindC kindOf ((p,w)::P.zip vs) m p=_;unfold bindC;rw[bg λv hv=>(vB.mp nd).1 (List.of_mem_zip hv).1,zM hk];simp
 |p::P,w::vs,i+1,m,nd,h1,h2,hk=>by
  show bindC kindOf ((p,w)::P.zip vs) m x=_;unfold bindC;exact bf (i:=i) (vB.mp nd).2 (by simpa using h1) (by simpa using h2) hk
def start(N:List Str)(vs:List V):St:=vs.map some++List.replicate (N.length-vs.length) none
def ww(CX:CXT)(P:Program)(w:World)(K:W.Frag)(mg:Str->Option Value)(base:Heap)(N:List Str)(qual:Str)(scope:Scope)(f:Addr)(cd:Value)(A:Around)(outer:List Env)(s:Shared)(H:Hp)(E:XK):Cx where
 prog:=P
 w:=w
 K:=K
 mg:=mg
 base:=base
 A:=A.deeper (envOfC qual scope s.heap.objs.size f cd)
 N:=N
 s₀:=s
 H₀:=H
 env:=envOfC qual scope s.heap.objs.size f cd
 outer:=outer
 stack:=envOfC qual scope s.heap.objs.size f cd::outer
 ex:=[]
 calm:=true
 fn:=λ_=>true
 pn:=[]
 xe:=λe s'=>wpAny (model P w) (A.deeper (envOfC qual scope s.heap.objs.size f cd)) (leaving (envOfC qual scope s.heap.objs.size f cd) e) (λ_ s''=>CX outer H s E e s'') (λe' s''=>CX outer H s E e' s'') s'
theorem Yd{sc:Scope}{n:Nat}{x:Str}(h:sc.names.lookup x=some .cell):∃c,(cellsFrom n sc.names []).lookup x=some c:=by
 have q:=W.cellsFrom_some sc.names n [] (.inl h);exact uC.mp q
theorem Sm{CX:CXT}{P:Program}{w:World}{K:W.Frag}{mg:Str->Option Value}{base:Heap}{N ps:List Str}{qual:Str}{scope:Scope}{f:Addr}{cd:Value}{A:Around}{outer:List Env}{s s1:Shared}{H:Hp}{E:XK}{us:List Value}{vs:List V}
  (S:zm N ps scope) (hd:A.handled=none) (e0:Env0 P w K mg base A outer s H) (hl:vs.length=ps.length) (r:Vals vs us)
  (x:InCallC s s.heap.objs.size (bindL (envOfC qual scope s.heap.objs.size f cd).kindOf (ps.zip us) λ_=>none) (cellsFrom (s.heap.objs.size+1) scope.names []) (bindC (envOfC qual scope s.heap.objs.size f cd).kindOf (ps.zip us) λ_=>none) s1) :
  Inv (ww CX P w K mg base N qual scope f cd A outer s H E) [] (start N vs) H s1:=by
 have dE:ps.length<=N.length:=by have:=xH List.length S.pre;rw[wD]at this;lia
 obtain⟨h1,tk,rfl,hk⟩:=x.done;have PV:∀b:Addr,b∉(ww CX P w K mg base N qual scope f cd A outer s H E).ex:=λb z=>absurd (show b∈([]:List Addr)from z) (by simp);refine⟨⟨e0.mod,S.kind,rfl,rfl,zT _,λy z c h1 h2=>?_,λy hy=>?_,λy c _ h=>?_,λ_=>hd,Around.frames_deeper e0.frames,.inr ⟨rfl,rfl⟩,λb z=>absurd z (PV b),e0.bs,e0.bsz,λb _ _=>PV b,λb z=>absurd z (PV b),e0.funs,e0.frf⟩,
  rfl,e0.bare,Un.kept hk,⟨_,x.toInCall.ns,λi y v h1 h2 h3=>?_⟩,λy c h=>⟨_,x.cell y c h⟩,e0.hok.fresh (zT _),λy c h=>?_,λp hp=>absurd (show p∈([]:List (Addr×Obj))from hp) (by simp),e0.hok.kept hk,?_⟩
 ·exact name_of_addr x.apart (wV h1) (wV h2)
 ·have hy:scope.names.lookup y=some .cell\/scope.names.lookup y=some .free:=hy;rcases hy with hy|hy
  ·exact Yd hy
  ·exact absurd rfl (S.nofree _ (wV hy))
 ·exact xO (x.above y c (wV h))
 ·have hi:i<vs.length:=by
   unfold start at h2
   by_cases hi:i<vs.length
   ·exact hi
   ·rw[wB (by simpa using hi)]at h2;rw[List.getElem?_replicate]at h2;split at h2<;>cases h2
  have ha:vs[i]?=some v:=by
   unfold start at h2;rw[wW (by simpa using hi),yI]at h2;cases e:vs[i]? with
   |none=>rw[e]at h2;cases h2
   |some a=>rw[e]at h2;cases h2;rfl
  obtain⟨u,hu,rv⟩:=r.get ha;have hp:ps[i]?=some y:=by
   rw[<-S.pre,vO (by lia)];exact h1
  have ndP:ps.Nodup:=by rw[<-S.pre];exact S.nd.sublist (List.take_sublist _ _)
  refine⟨u,rv,?_⟩;rcases S.par y (zB hp)with k|k
  ·exact .inl ⟨k,bh ndP hp hu k⟩
  ·obtain⟨c,e⟩:=Yd (n:=s.heap.objs.size+1) k;refine .inr ⟨.inl k,c,e,?_⟩;have q:=x.cell y c e;rw[bf ndP hp hu (by show scope.names.lookup y≠_;rw[k];decide)]at q;exact q
 ·exact e0.hok.fresh (xO (x.above y c (wV h)))
 ·unfold start;show _=N.length;rw[zE,zV,uY];lia
theorem Om{CX:CXT}{P:Program}{w:World}{K:W.Frag}{mg:Str->Option Value}{base:Heap}{k:Nat}{f:Addr}{name qual:Str}{params:Arguments}{body:List Stmt}{scope:Scope}{dV kV doc pm cdv ct oc:Value}{an od:Option Addr}
  {osl:Array (Option Value)}{N ps:List Str}{sp:Sp} (lk:K.lookup f=some ⟨oc,od,.func (W.fnOf name qual params body scope dV kV doc pm an cdv ct),osl⟩) (pN:W.codeIn K cdv qual=true) (S:zm N ps scope)
  (len:∀vs H Q E,sp vs H Q E->vs.length=ps.length)
  (bF:∀(A:Around)(outer:List Env)(s:Shared)(H:Hp)(vs:List V)(Q:VK)(E:XK),Room k (A.deeper (envOfC qual scope s.heap.objs.size f cdv))->sp vs H Q E ->
   ∃t,PSs (ww CX P w K mg base N qual scope f cdv A outer s H E) body t/\t { nx:=λ_ H'=>Q .non H',rt:=Q } (start N vs) H) :
  vc P w K mg base CX (k+1) f (W.fnOf name qual params body scope dV kV doc pm an cdv ct) ps sp:=by
 refine⟨len,λA outer s H args us vs Q E hr e0 hb r oK=>?_⟩;have hl:=len _ _ _ _ oK;have KX:K.In s.heap:=e0.mod.kin.keeps λb o e=>(e0.bs b o e).1;have lim:s.heap.NoLimit:=e0.mod.nolimit.keeps λb o e=>(e0.bs b o e).1;have UQ:∀y∈ps.zip us,scope.names.lookup y.1=some .local\/(scope.names.lookup y.1=some .cell/\((cellsFrom (s.heap.objs.size+1) scope.names []).lookup y.1).isSome=true):=λ⟨n,v⟩ hy=>by
  rcases S.par n (List.of_mem_zip hy).1 with q|q
  ·exact .inl q
  ·exact .inr ⟨q,W.cellsFrom_some _ _ _ (.inl q)⟩
 refine codeAny_call_function hr.depth (KX _ _ lk) rfl S.co S.gen rfl (W.codeRec_of KX pN) (hb _ _ _ _ ?_);refine wpAny_newFunctionEnv_cells S.kind UQ λenv he s1 x=>?_;subst he;refine⟨lim.keeps x.toInCall.keep,codeAny_func ?_⟩;obtain⟨t,ht,hq⟩:=bF A outer s H vs Q E (hr.deeper _) oK;have I:Inv (ww CX P w K mg base N qual scope f cdv A outer s H E) [] (start N vs) H s1:=Sm S hr.hd e0 hl r x;refine yN (ht [] s1 (start N vs) H _ I hq) (λfl s' hs=>?_) λe s' hs=>hs;have cJ:∀{σ':St}{H':Hp}{v:V}{u:Value},Inv (ww CX P w K mg base N qual scope f cdv A outer s H E) [] σ' H' s'->RelV v u->Q v H'->CE outer P w H s Q u s' :=
  λ{σ' H' v u} J rv q=>⟨v,H',J.os,J.bare,J.base,J.hok,rv,q⟩
 cases fl with
 |ret u =>
  obtain⟨v,σ',H',J,rv,q⟩:=hs;exact cJ J rv q
 |next =>
  obtain⟨σ',H',J,q⟩:=hs;exact cJ (v:=V.non) (u:=Value.none) J rfl q
 |brk =>
  obtain⟨_,_,_,q⟩:=hs;exact False.elim q
 |cont =>
  obtain⟨_,_,_,q⟩:=hs;exact False.elim q
end L2
namespace L2
open PySem PySem.Spec PyProof.Rows
section
variable {X:Cx}{x:Str}{p pos:Pos}{e:Expr}{es:List Expr}{t:TA}{id T:String}{r:List V->Hp->VK->Prop}
def tCB(r:List V->Hp->VK->Prop)(t:TA):TE:=fun σ H Q=>t σ H λvs H1=>r vs H1 Q
theorem zq(hc:vf X (.builtin id) r)(hg:Gl X x)(hm:X.mg x=none)(hv:bootBuiltins x=some (.builtin id))(ha:PA X (e::es) t)(hn:x≠"__name__":=by decide)(kH:(x==("__debug__":Str))=false:=by decide)
  (he:starEach (e::es) X.env=(false,eval e X.env)::starEach es X.env:=by rfl) (dE:(backTo pos (starEach es X.env)).any (·.1)=false:=by rfl):PE X (.Call (.Name x p) (e::es) [] pos) (tCB r t):=by
 intro pins s σ H Q I h;refine xA (tu I hg hm hv ?_ hn kH);exact PyProof.Rows.callWith_builtin1 (thn (ha pos pins s σ H _ I h) λus s1 ⟨vs,H1,I1,r1,q1⟩=>hc pins s1 σ H1 vs us Q I1 r1 q1) he dE
theorem xh(hc:vf X (.type T) r)(hg:Gl X x)(hm:X.mg x=none)(hv:bootBuiltins x=some (.type T))(ha:PA X (e::es) t)(hn:x≠"__name__":=by decide)(kH:(x==("__debug__":Str))=false:=by decide)
  (he:starEach (e::es) X.env=(false,eval e X.env)::starEach es X.env:=by rfl) (dE:(backTo pos (starEach es X.env)).any (·.1)=false:=by rfl):PE X (.Call (.Name x p) (e::es) [] pos) (tCB r t):=by
 intro pins s σ H Q I h;refine xA (tu I hg hm hv ?_ hn kH);exact xC (thn (ha pos pins s σ H _ I h) λus s1 ⟨vs,H1,I1,r1,q1⟩=>hc pins s1 σ H1 vs us Q I1 r1 q1) he dE
end
end L2
namespace HT
open PySem PyProof.Rows
section
open PySem.SeqAt
open PySem.AutoSeq1 (wpAny_loadPart')
open PySem.MeetsSeq PySem.MeetsSeq2 PySem.MeetsSeq3
end
section
variable {prog:Program}{w:World}{A:Around}{E:Value->Shared->Prop}{s:Shared}
theorem cat_tup{t b:Addr}{vs ws:List Value}{Q:Value->Shared->Prop}(ht:IsTup s.heap t vs.toArray)(hb:IsTup s.heap b ws.toArray)(hv:vs≠[])
  (h1:ws=[]->Q (.ref t) s) (h2:ws≠[]->Q (.ref s.heap.objs.size) { s with heap:=s.heap.push { cls:=.type "tuple",data:=.seq (vs++ws).toArray } })
  (bY:vs.length+ws.length<=sizeLine):wpAny (model prog w) A (binaryOp .Add (.ref t) (.ref b)) Q E s:=by
 obtain⟨⟨cls,dd,data,sl⟩,ho,hc,n,hd⟩:=id ht;obtain⟨⟨cls2,dd2,data2,CJ⟩,HG,BV,n2,HP⟩:=id hb;simp only at hc hd BV HP;subst hc hd BV HP;have e:vs.toArray++ws.toArray=(vs++ws).toArray:=by simp
 by_cases hw:ws=[]
 ·exact concat_meets ⟨_,ho,rfl⟩ ⟨_,HG,rfl⟩ noFill_tuple_add seq_tuple_add tQ tS (uB _ _)
   (tuple_addW1 t b vs.toArray ws.toArray n n2 dd dd2 sl CJ (by simpa using hv) (by simp[hw])) ⟨ho,HG,h1 hw⟩
 ·refine concat_meets ⟨_,ho,rfl⟩ ⟨_,HG,rfl⟩ noFill_tuple_add seq_tuple_add tQ tS (uB _ _)
   (tuple_addW2 t b vs.toArray ws.toArray n n2 dd dd2 sl CJ (by simpa using hv) (by simpa using hw) (by rw[zN,zN];exact bY)) ⟨ho,HG,?_⟩
  rw[e];exact h2 hw
def sIx(n d:Nat):Option Int->Nat
 |none=>d
 |some v=>if v<0 then(v+(n:Int)).toNat else min v.toNat n
theorem sIx_none(n d:Nat):sIx n d none=d:=rfl
theorem Jl(n d:Nat)(hd:d<=n)(o:Option Int):sIx n d o<=n:=by
 cases o with
 |none=>exact hd
 |some v =>
  show(if v<0 then(v+(n:Int)).toNat else min v.toNat n)<=n
  by_cases hv:v<0
  ·rw[zG hv];lia
  ·rw[zM hv];exact Nat.min_le_right _ _
theorem Us(v:Int)(n d:Nat):(if v<0 then max (v+(n:Int)) 0 else min v (n:Int))=((sIx n d (some v):Nat):Int):=by
 show(if v<0 then max (v+(n:Int)) 0 else min v (n:Int))=(((if v<0 then(v+(n:Int)).toNat else min v.toNat n):Nat):Int)
 by_cases hv:v<0
 ·simp only[zG hv];lia
 ·simp only[zM hv];lia
theorem V2(lo hi:Option Int)(n:Nat):Builtin.Slice.sliceAdjust lo hi 1 (n:Int)=(((sIx n 0 lo:Nat):Int),((sIx n n hi:Nat):Int)):=by
 have h1:¬((1:Int)<0):=by lia
 unfold Builtin.Slice.sliceAdjust;simp only[h1,if_false];refine Prod.ext ?_ ?_
 ·cases lo with
  |none=>rfl
  |some v=>exact Us v n 0
 ·cases hi with
  |none=>rfl
  |some v=>exact Us v n n
theorem Xo(i j:Nat):Builtin.Slice.slicePlaces (i:Int) (j:Int) 1=j-i:=by
 unfold Builtin.Slice.slicePlaces;have h1:(1:Int)>0:=by lia
 simp only[h1,if_true,Int.ediv_one];split<;>lia
theorem kr{v:Value}{o:Option Int}{Q:Option Int->Shared->Prop}(p:IsPart v o)(h:Q o s):wpAny (model prog w) A (Builtin.Slice.slicePartIndex v) Q E s:=by
 cases p with
 |none=>exact slicePart_none h
 |int i t=>exact slicePart_int h
theorem sliceApplied_gen{sl:Addr}{vl vu:Value}{lo hi:Option Int}{n:Nat}{Q:Int×Int×Nat->Shared->Prop}(hs:s.heap.IsSliceOf sl vl vu .none)(pl:IsPart vl lo)(pu:IsPart vu hi)
  (h:Q (((sIx n 0 lo:Nat):Int),1,sIx n n hi-sIx n 0 lo) s):wpAny (model prog w) A (Builtin.Slice.sliceApplied (.ref sl) (pure (n:Int))) Q E s:=by
 obtain⟨os,HE,KD,U'⟩:=id hs;unfold Builtin.Slice.sliceApplied Builtin.Slice.sliceFields;refine zZ (zZ (yF HE U' (x:=vl) rfl (zZ (yF HE U' (x:=vu) rfl (zZ (yF HE U' (x:=.none) rfl (zW ?_)))))));refine zZ (slicePart_none ?_);show wpAny _ _ (if((1:Int)==0)=true then _ else _) _ _ s;rw[zM (by decide)];refine zZ (kr pl (zZ (kr pu (zZ (zW ?_)))));show wpAny _ _ (match Builtin.Slice.sliceAdjust lo hi 1 (n:Int)with|(lo,hi)=>pure (lo,(1:Int),Builtin.Slice.slicePlaces lo hi 1)) _ _ s;rw[V2 lo hi n];show wpAny _ _ (pure (((sIx n 0 lo:Nat):Int),(1:Int),Builtin.Slice.slicePlaces ((sIx n 0 lo:Nat):Int) ((sIx n n hi:Nat):Int) 1)) _ _ s;rw[Xo];exact zW h
theorem Qk(xs:Array Value)(i k:Nat):((List.range k).filterMap λ(m:Nat)=>xs[((i:Int)+(m:Int)*1).toNat]?).toArray=((xs.toList.drop i).take k).toArray:=by
 have e:(λ(m:Nat)=>xs[((i:Int)+(m:Int)*1).toNat]?)=λm=>xs[i+m]?:=by
  funext m
  have:((i:Int)+(m:Int)*1).toNat=i+m:=by lia
  rw[this]
 rw[e];have:=pick_run xs i k;rw[List.filterMap_map]at this;have e2:((λx=>xs[x]?)∘λx=>i+x)=λm=>xs[i+m]?:=rfl;rw[e2]at this;rw[this]
theorem getItem_tuple_cut{t sl:Addr}{aB:Array Value}{vl vu:Value}{lo hi:Option Int}{Q:Value->Shared->Prop}(ht:IsTup s.heap t aB)(hs:s.heap.IsSliceOf sl vl vu .none)(pl:IsPart vl lo)(pu:IsPart vu hi)
  (hw:¬(sIx aB.size 0 lo=0/\sIx aB.size aB.size hi=aB.size))
  (h:Q (.ref s.heap.objs.size) { s with heap:=s.heap.push { cls:=.type "tuple",data:=.seq ((aB.toList.drop (sIx aB.size 0 lo)).take (sIx aB.size aB.size hi-sIx aB.size 0 lo)).toArray } })
  (bY:aB.size<=sizeLine):wpAny (model prog w) A (getItem (.ref t) (.ref sl)) Q E s:=by
 have sJ:sizeOk (.seq ((aB.toList.drop (sIx aB.size 0 lo)).take (sIx aB.size aB.size hi-sIx aB.size 0 lo)).toArray):=by
  show((aB.toList.drop (sIx aB.size 0 lo)).take (sIx aB.size aB.size hi-sIx aB.size 0 lo)).toArray.size<=sizeLine;rw[zN,wD,xY,xQ];lia
 have hj:sIx aB.size aB.size hi<=aB.size:=Jl _ _ (zT _) hi;obtain⟨os,HE,KD,U'⟩:=id hs;have VE:s.TypeIs (.ref sl) "slice":=⟨os,HE,KD⟩
 unfold getItem
 try with_reducible refine xD ?_
 first|refine zZ (zW ?_)|skip
 refine zZ (wpAny_sequenceKey ht.typeIs (by decide) ?_);refine zZ (xM (name:=Str.ofString "__getitem__") ht.typeIs xS
  (xX xS ht.typeIs entry_tuple_getitem ?_ (args_tuple_getitem _ _)))
 show wpAny _ _ (Builtin.Tuple.tupleItemsOf (.ref t) >>= _) _ _ s;refine zZ (tupleItemsOf_ ht ?_);refine zZ (uG VE ?_);rw[zG (by decide)];refine zZ (sliceApplied_gen hs pl pu ?_);have oN:¬((((sIx aB.size 0 lo:Nat):Int)==0&&(1:Int)==1&&(sIx aB.size aB.size hi-sIx aB.size 0 lo)==aB.size)=true):=by
  intro q;rw[yY,yY]at q;have q1:((sIx aB.size 0 lo:Nat):Int)=0:=eq_of_beq q.1.1;have q2:sIx aB.size aB.size hi-sIx aB.size 0 lo=aB.size:=eq_of_beq q.2;exact hw ⟨by lia,by lia⟩
 show wpAny _ _ (if(((sIx aB.size 0 lo:Nat):Int)==0&&(1:Int)==1&&(sIx aB.size aB.size hi-sIx aB.size 0 lo)==aB.size)=true then _ else _) _ _ s;rw[zM oN,Qk]
 first
  |exact zZ (m:=Builtin.Tuple.tupleExact _) (yE (zW ⟨_,rfl,zW h⟩) sJ)
  |exact zZ (m:=Builtin.Tuple.tupleExact _) (yE (zZ (zW (zW ⟨_,rfl,zW h⟩))) sJ)
  |exact zZ (zZ (m:=Builtin.Tuple.tupleExact _) (yE (zW (zW ⟨_,rfl,zW h⟩)) sJ))
  |exact zZ (zZ (m:=Builtin.Tuple.tupleExact _) (yE (zW ⟨_,rfl,zW h⟩) sJ))
end
end HT
namespace L2
open PySem PySem.Spec PyProof.Rows
abbrev TO:=St->Hp->(Option Int->Hp->Prop)->Prop
def PO(X:Cx)(e:Option Expr)(t:TO):Prop :=
 ∀(pins:List (Addr×Obj))(s:Shared)(σ:St)(H:Hp)(Q:Option Int->Hp->Prop),Inv X pins σ H s->t σ H Q ->
  wpAny (model X.prog X.w) X.A (evalPart e X.env) (λu s'=>∃o H',Inv X pins σ H' s'/\IsPart u o/\Q o H') X.xe s
def Vv:TO:=λ_ H Q=>Q none H
section
variable {X:Cx}{e:Expr}{te:TE}{lo hi:Option Expr}{tl th:TO}{pos p2:Pos}
theorem vb:PO X none Vv:=by
 intro pins s σ H Q I h;rw[evalPart_none];exact zW ⟨none,H,I,.none,h⟩
def SlR(X:Cx)(r:V->Option Int->Option Int->Hp->VK->Prop):Prop :=
 ∀(pins:List (Addr×Obj))(s:Shared)(σ:St)(H:Hp)(x:V)(v vl vu:Value)(lo hi:Option Int)(sl:Addr)(Q:VK),Inv X pins σ H s->RelV x v->s.heap.IsSliceOf sl vl vu .none->IsPart vl lo->IsPart vu hi->r x lo hi H Q ->
  ∃T id,typeLookup (.type T) "__getitem__"=pure (some (.builtin id))/\s.TypeIs v T/\wpAny (model X.prog X.w) X.A (getItem v (.ref sl)) (EP X pins σ Q) X.xe s
theorem SlR.or{r r':V->Option Int->Option Int->Hp->VK->Prop}(h:SlR X r)(h':SlR X r'):SlR X (λx lo hi H Q=>r x lo hi H Q\/r' x lo hi H Q):=by
 intro pins s σ H x v vl vu lo hi sl Q I rx hs pl pu q;rcases q with q|q
 ·exact h pins s σ H x v vl vu lo hi sl Q I rx hs pl pu q
 ·exact h' pins s σ H x v vl vu lo hi sl Q I rx hs pl pu q
def tSl(r:V->Option Int->Option Int->Hp->VK->Prop)(te:TE)(tl th:TO):TE:=fun σ H Q=>te σ H λx H1=>tl σ H1 λl H2=>th σ H2 λu H3=>r x l u H3 Q
theorem Qh{r:V->Option Int->Option Int->Hp->VK->Prop}(hr:SlR X r)(he:PE X e te)(hl:PO X lo tl)(hu:PO X hi th):PE X (.Subscript e (.Slice lo hi none p2) pos) (tSl r te tl th):=by
 intro pins s σ H Q I h;refine Subscript_ (thn (he pins s σ H _ I h) λv s1 ⟨x,H1,I1,r1,q1⟩=>?_);refine wpAny_Slice (thn (hl pins s1 σ H1 _ I1 q1) λvl s2 ⟨l,H2,I2,pl,q2⟩=>thn (hu pins s2 σ H2 _ I2 q2) λvu s3 ⟨u,H3,I3,pu,q3⟩=>?_);rw[evalPart_none];refine zW ?_;have I4:Inv X pins σ H3 { s3 with heap:=s3.heap.push { cls:=.type "slice",data:=.fields #[vl,vu,.none] } }:=I3.kept (t':=s3.toks) λb ob q=>zY _ q;obtain⟨T,id,hT,ht,hg⟩:=hr pins { s3 with heap:=s3.heap.push { cls:=.type "slice",data:=.fields #[vl,vu,.none] } } σ H3 x v vl vu l u s3.heap.objs.size Q I4 r1 (Heap.IsSliceOf.new ..) pl pu q3;show wpAny (model X.prog X.w) X.A (subscriptTail e (.Slice lo hi none p2) v (.ref s3.heap.objs.size)) (EP X pins σ Q) X.xe { s3 with heap:=s3.heap.push { cls:=.type "slice",data:=.fields #[vl,vu,.none] } };exact tail_any (ops:=[.ref s3.heap.objs.size,v]) ht hT hg (by with_unfolding_all rfl)
def rm(xs:List V)(lo hi:Option Int):List V:=(xs.drop (HT.sIx xs.length 0 lo)).take (HT.sIx xs.length xs.length hi-HT.sIx xs.length 0 lo)
theorem mq(xs:List V)(lo hi:Option Int):(rm xs lo hi).length<=xs.length:=by
 unfold rm;rw[wD,xY];lia
def B0(K:W.Frag):V->Option Int->Option Int->Hp->VK->Prop:=λx lo hi H Q=>∃a xs,x = .ref a/\SqT K H a xs /\
 ¬(HT.sIx xs.length 0 lo=0/\HT.sIx xs.length xs.length hi=xs.length)/\∀p,H p=none->Q (.ref p) (upd H p (.tup (rm xs lo hi)))
theorem Ju:SlR X (B0 X.K):=by
 intro pins s σ H x v vl vu lo hi sl Q I rx hs pl pu h;obtain⟨a,xs,rfl,hx,hw,q⟩:=h;cases rx;obtain⟨aJ,r,ht,hz⟩:=I.tuple hx;have aZ:aJ.toArray.size=xs.length:=by rw[zN];exact r.length.symm
 refine⟨"tuple",_,xS.lookup,ht.typeIs,?_⟩;refine HT.getItem_tuple_cut ht hs pl pu (by rw[aZ];exact hw) ?_ (by rw[aZ];exact hz);rw[aZ];refine⟨.ref s.heap.objs.size,_,I.laid (t':=s.toks) (o:=.tup (rm xs lo hi)) (λb ob q=>zY _ q) (zT _) ?_,rfl,q _ (I.hok.fresh (zT _))⟩;exact⟨yQ (mq xs lo hi) hz,_,(r.drop (HT.sIx xs.length 0 lo)).take (HT.sIx xs.length xs.length hi-HT.sIx xs.length 0 lo),IsTup.new _ _⟩
def E9(K:W.Frag):R2:=λx y H Q=>∃a b xs ys,x = .ref a/\y = .ref b/\SqT K H a xs/\SqT K H b ys/\xs≠[]/\xs.length+ys.length<=sizeLine /\
 (ys=[]->Q (.ref a) H)/\(ys≠[]->∀p,H p=none->Q (.ref p) (upd H p (.tup (xs++ys))))
theorem Vals.nil_iff{xs:List V}{us:List Value}(r:Vals xs us):us=[]↔xs=[]:=by
 cases r with
 |nil=>simp
 |cons _ _=>simp
theorem Mn:OpR X (binaryOp .Add) (E9 X.K):=by
 intro pins s σ H x y v u Q I rx ry h;obtain⟨a,b,xs,ys,rfl,rfl,ha,hb,hx,hz,q1,q2⟩:=h;cases rx;cases ry;obtain⟨aJ,r1,p1,_⟩:=I.tuple ha;obtain⟨kF,r2,p2,_⟩:=I.tuple hb;refine HT.cat_tup p1 p2 (λz=>hx (r1.nil_iff.mp z)) (λz=>⟨.ref a,H,I,rfl,q1 (r2.nil_iff.mp z)⟩) (λz=>?_) (by rw[<-r1.length,<-r2.length];exact hz);refine⟨.ref s.heap.objs.size,_,I.laid (t':=s.toks) (o:=.tup (xs++ys)) (λb ob q=>zY _ q) (zT _) ?_,rfl,q2 (λw=>z (r2.nil_iff.mpr w)) _ (I.hok.fresh (zT _))⟩;exact⟨by rw[zE];exact hz,_,r1.append r2,IsTup.new _ _⟩
end
end L2
namespace L2
open PySem PySem.Spec PyProof.Rows
def ixN(n:Nat)(i:Int):Option Nat:=if 0<=i then(if i<n then some i.toNat else none)else if -(n:Int)<=i then some (i+n).toNat else none
def atI{α:Type}(xs:List α)(i:Int):Option α:=(ixN xs.length i).bind λj=>xs[j]?
theorem Ln{n:Nat}{i:Int}{j:Nat}(h:ixN n i=some j):seqIndex? i n=some j/\j<n/\-(n:Int)<=i/\i<n:=by
 unfold ixN at h
 by_cases h0:0<=i
 ·rw[zG h0]at h
  by_cases h1:i<n
  ·rw[zG h1]at h;have e:i.toNat=j:=yT h;exact⟨by rw[seqIndex_of h0 h1,e],by lia,by lia,h1⟩
  ·rw[zM h1]at h;cases h
 ·rw[zM h0]at h
  by_cases h1:-(n:Int)<=i
  ·rw[zG h1]at h;have e:(i+n).toNat=j:=yT h;exact⟨by rw[seqIndex_neg (by lia) h1,e],by lia,h1,by lia⟩
  ·rw[zM h1]at h;cases h
theorem Zx{α:Type}{xs:List α}{i:Int}{v:α}(h:atI xs i=some v):∃j,seqIndex? i xs.length=some j/\xs[j]?=some v/\j<xs.length/\-(xs.length:Int)<=i/\i<xs.length:=by
 unfold atI at h;cases e:ixN xs.length i with
 |none=>rw[e]at h;cases h
 |some j =>
  rw[e]at h;obtain⟨h1,h2,h3,h4⟩:=Ln e;exact⟨j,h1,h,h2,h3,h4⟩
theorem lr{α:Type}{xs:List α}{j:Nat}{v:α}(h:xs[j]?=some v):atI xs (j:Int)=some v:=by
 have hj:j<xs.length:=(zR.mp h).1;have e:ixN xs.length (j:Int)=some j:=by
  unfold ixN;rw[zG (by lia),zG (by lia)];simp
 unfold atI;rw[e];exact h
def Uk(b:Expr):Prop:=∀o i,subscripted b false o i=operate [o,i] (getItem o i)
def IxR(X:Cx)(r:R2):Prop :=
 ∀(value slice:Expr)(pins:List (Addr×Obj))(s:Shared)(σ:St)(H:Hp)(x y:V)(v u:Value)(Q:VK),Inv X pins σ H s->RelV x v->RelV y u->r x y H Q ->
  subscripted slice false v u=operate [v,u] (getItem v u)->wpAny (model X.prog X.w) X.A (subscriptTail value slice v u) (EP X pins σ Q) X.xe s
def MtR(X:Cx)(id:String)(r:V->List V->Hp->VK->Prop):Prop :=
 ∀(pins:List (Addr×Obj))(s:Shared)(σ:St)(H:Hp)(x:V)(xs:List V)(v:Value)(us:List Value)(Q:VK),Inv X pins σ H s->RelV x v->Vals xs us->r x xs H Q ->
  wpAny (model X.prog X.w) X.A (call (.builtin id) (v::us)) (EP X pins σ Q) X.xe s
section
variable {X:Cx}{a b:Expr}{ta tb:TE}{pos:Pos}
theorem IxR.or{r r':R2}(h:IxR X r)(h':IxR X r'):IxR X (λx y H Q=>r x y H Q\/r' x y H Q):=by
 intro value slice pins s σ H x y v u Q I rx ry q hs;rcases q with q|q
 ·exact h value slice pins s σ H x y v u Q I rx ry q hs
 ·exact h' value slice pins s σ H x y v u Q I rx ry q hs
theorem Ei{r:R2}(hr:IxR X r)(ha:PE X a ta)(hb:PE X b tb)(hs:Uk b):PE X (.Subscript a b pos) (tOp r ta tb):=by
 intro pins s σ H Q I h;exact Subscript_ (Gk ha hb I h λv u s2 x y H2 I2 rx ry q=>hr a b pins s2 σ H2 x y v u Q I2 rx ry q (hs _ _))
def Fa(K:W.Frag):R2:=λx y H Q=>∃p xs i v,x = .ref p/\y = .int i/\SqL K H p xs/\atI xs i=some v/\Q v H
def Fc(K:W.Frag):R2:=λx y H Q=>∃p xs i v,x = .ref p/\y = .int i/\SqT K H p xs/\atI xs i=some v/\Q v H
def Fb:R2:=λx y H Q=>∃z i c,x = .str z/\y = .int i/\z.length<=sizeLine/\atI z.cps.toList i=some c/\Q (.str ⟨#[c]⟩) H
theorem ix_list:IxR X (Fa X.K):=by
 intro value slice pins s σ H x y v u Q I rx ry h hs;obtain⟨p,xs,i,z,rfl,rfl,hq,he,q⟩:=h;cases rx;obtain⟨t,rfl⟩:=ry;obtain⟨aJ,r,pl,hz⟩:=I.list hq;obtain⟨j,h1,h2,h3,h4,h5⟩:=Zx he;obtain⟨w,ew,CK⟩:=r.get h2;have hl:=r.length;have hn:=gc;have cJ:EP X pins σ Q w s:=⟨z,H,I,CK,q⟩
 by_cases h0:0<=i
 ·have hj:i.toNat=j:=by
   rw[seqIndex_of h0 h5]at h1;exact yT h1
  exact item_listR pl.isList h0 (by lia) (by rw[hj];simpa using ew) cJ hs
 ·have hj:(i+(aJ.toArray.size:Int)).toNat=j:=by
   rw[seqIndex_neg (by lia) h4]at h1;rw[zN,<-hl];exact yT h1
  exact subscriptTail_builtinR (x:=w) pl.isList.typeIs slot_list_getitem.lookup
   (wpAny_getItem_list_neg (Q:=λr s'=>r=w/\EP X pins σ Q r s') pl.isList (by lia) (by rw[zN]<;>lia) (by lia) (by rw[hj];simpa using ew) ⟨rfl,cJ⟩) hs
theorem ix_tup:IxR X (Fc X.K):=by
 intro value slice pins s σ H x y v u Q I rx ry h hs;obtain⟨p,xs,i,z,rfl,rfl,hq,he,q⟩:=h;cases rx;obtain⟨t,rfl⟩:=ry;obtain⟨aJ,r,pl,hz⟩:=I.tuple hq;obtain⟨j,h1,h2,h3,h4,h5⟩:=Zx he;obtain⟨w,ew,CK⟩:=r.get h2;have hl:=r.length;have hn:=gc;have cJ:EP X pins σ Q w s:=⟨z,H,I,CK,q⟩
 exact subscriptTail_builtinR (x:=w) pl.typeIs slot_tuple_getitem.lookup
  (getItem_tuple (j:=j) (Q:=λr s'=>r=w/\EP X pins σ Q r s') pl (by lia) (by lia) (by rw[zN,<-hl];exact h1) (by simpa using ew) ⟨rfl,cJ⟩) hs
theorem G0:IxR X Fb:=by
 intro value slice pins s σ H x y v u Q I rx ry h hs;obtain⟨z,i,c,rfl,rfl,hz,he,q⟩:=h;obtain⟨t,rfl⟩:=rx;obtain⟨t',rfl⟩:=ry;obtain⟨j,h1,h2,h3,h4,h5⟩:=Zx he;have hl:z.cps.toList.length=z.length:=by simp[Str.length]
 rw[hl]at h1 h4 h5;have hn:=gc;exact tail_any (uO s z t) slot_str_getitem.lookup (getItem_str (c:=c) (by
  have e1:decide (i < -(2 ^ 63:Int))=false:=yV (by lia);have e2:decide (i≥2 ^ 63)=false:=yV (by lia);rw[e1,e2,Bool.or_false]) (by rw[h1];simpa using h2) ⟨.str ⟨#[c]⟩,H,I.tok _,⟨_,rfl⟩,q⟩) hs
def rIx(K:W.Frag):R2:=λx y H Q=>Fa K x y H Q\/Fc K x y H Q\/Fb x y H Q
theorem Gz:IxR X (rIx X.K):=ix_list.or (ix_tup.or G0)
theorem au(lo hi:Option Int)(n:Nat):(sliceBounds lo hi none n).1=((HT.sIx n 0 lo:Nat):Int)/\(sliceBounds lo hi none n).2.1=((HT.sIx n n hi:Nat):Int)/\(sliceBounds lo hi none n).2.2=1:=by
 refine⟨?_,?_,rfl⟩
 ·cases lo with
  |none=>simp[sliceBounds,HT.sIx]
  |some i =>
   simp only[sliceBounds,HT.sIx,Option.getD_none,show(1:Int)>0 by decide,if_true]
   by_cases h:i<0
   ·simp only[h,if_true]<;>lia
   ·simp only[h,if_false]<;>lia
 ·cases hi with
  |none=>simp[sliceBounds,HT.sIx]
  |some i =>
   simp only[sliceBounds,HT.sIx,Option.getD_none,show(1:Int)>0 by decide,if_true]
   by_cases h:i<0
   ·simp only[h,if_true]<;>lia
   ·simp only[h,if_false]<;>lia
theorem eu(aJ:List Value)(lo hi:Option Int):slicePick aJ.toArray lo hi none=((aJ.drop (HT.sIx aJ.length 0 lo)).take (HT.sIx aJ.length aJ.length hi-HT.sIx aJ.length 0 lo)).toArray:=by
 obtain⟨h1,h2,h3⟩:=au lo hi aJ.toArray.size;unfold slicePick;rw[h1,h2,h3];simp only[sliceRange_one,pick_run,zN]<;>rfl
def Bz(K:W.Frag):V->Option Int->Option Int->Hp->VK->Prop:=λx lo hi H Q=>∃a xs,x = .ref a/\SqL K H a xs/\∀p,H p=none->Q (.ref p) (upd H p (.lst (rm xs lo hi)))
theorem Nd:SlR X (Bz X.K):=by
 intro pins s σ H x v vl vu lo hi sl Q I rx hs pl pu h;obtain⟨a,xs,rfl,hx,q⟩:=h;cases rx;obtain⟨aJ,r,ht,hz⟩:=I.list hx;have aZ:=r.length;refine⟨"list",_,slot_list_getitem.lookup,ht.isList.typeIs,?_⟩;refine wpAny_getItem_list_slice ht.isList hs pl pu .none (by simp) ?_ (by rw[zN]<;>lia);rw[eu,<-aZ];refine⟨.ref s.heap.objs.size,_,I.laid (t':=s.toks) (o:=.lst (rm xs lo hi)) (λb ob q=>zY _ q) (zT _) ?_,rfl,q _ (I.hok.fresh (zT _))⟩;exact⟨yQ (mq xs lo hi) hz,_,0,(r.drop (HT.sIx xs.length 0 lo)).take (HT.sIx xs.length xs.length hi-HT.sIx xs.length 0 lo),zS _ rfl⟩
def vg:V->Bool
 | .non=>true
 | .bl _=>true
 | .int _=>true
 | .str _=>true
 |_=>false
def eqV:V->V->Bool
 | .non,.non=>true
 | .bl a,.bl b=>a==b
 | .bl a,.int b=>(if a then 1 else 0)==b
 | .int a,.bl b=>a==(if b then 1 else 0)
 | .int a,.int b=>a==b
 | .str a,.str b=>a==b
 |_,_=>false
theorem Gv{A:Around}{s:Shared}{y x:V}{u v:Value}(ry:RelV y u)(rx:RelV x v)(fy:vg y=true)(fx:vg x=true):SeqAt.EqAt A s u v (eqV y x):=by
 cases y with
 |non =>
  cases ry;cases x with
  |non=>cases rx;exact SeqAt.EqAt.same _
  |bl b=>cases rx;exact SeqAt.EqAt.none_bool b
  |int b=>obtain⟨t,rfl⟩:=rx;exact SeqAt.EqAt.none_int b t
  |str b=>obtain⟨t,rfl⟩:=rx;exact SeqAt.EqAt.none_str b t
  |_=>exact absurd (show false=true from fx) zH
 |bl a =>
  cases ry;cases x with
  |non=>cases rx;exact SeqAt.EqAt.bool_none a
  |bl b=>cases rx;exact SeqAt.EqAt.bool_bool a b
  |int b=>obtain⟨t,rfl⟩:=rx;exact SeqAt.EqAt.bool_int a b t
  |str b=>obtain⟨t,rfl⟩:=rx;exact SeqAt.EqAt.bool_str a b t
  |_=>exact absurd (show false=true from fx) zH
 |int a =>
  obtain⟨t',rfl⟩:=ry;cases x with
  |non=>cases rx;exact SeqAt.EqAt.int_none a t'
  |bl b=>cases rx;exact SeqAt.EqAt.int_bool a t' b
  |int b=>obtain⟨t,rfl⟩:=rx;exact SeqAt.EqAt.int_int a t' b t
  |str b=>obtain⟨t,rfl⟩:=rx;exact SeqAt.EqAt.int_str a t' b t
  |_=>exact absurd (show false=true from fx) zH
 |str a =>
  obtain⟨t',rfl⟩:=ry;cases x with
  |non=>cases rx;exact SeqAt.EqAt.str_none a t'
  |bl b=>cases rx;exact SeqAt.EqAt.str_bool a t' b
  |int b=>obtain⟨t,rfl⟩:=rx;exact SeqAt.EqAt.str_int a t' b t
  |str b=>obtain⟨t,rfl⟩:=rx;exact SeqAt.EqAt.str_str a t' b t
  |_=>exact absurd (show false=true from fx) zH
 |_=>exact absurd (show false=true from fy) zH
def eqU(x:V)(u:Value):Bool:=match u with
 | .none=>eqV .non x
 | .bool b=>eqV (.bl b) x
 | .int i _=>eqV (.int i) x
 | .str z _=>eqV (.str z) x
 |_=>false
theorem Ol{x y:V}{u:Value}(r:RelV y u)(f:vg y=true):eqU x u=eqV y x:=by
 cases y with
 |non=>cases r;rfl
 |bl b=>cases r;rfl
 |int i=>obtain⟨t,rfl⟩:=r;rfl
 |str z=>obtain⟨t,rfl⟩:=r;rfl
 |_=>exact absurd (show false=true from f) zH
theorem Zw{x:V}:∀{xs:List V}{us:List Value},Vals xs us->xs.all vg=true->us.any (eqU x)=xs.any λy=>eqV y x
 |_,_,.nil,_=>rfl
 |y::xs,u::us,.cons r t,f=>by
  rw[List.all_cons,yY]at f;rw[List.any_cons,List.any_cons,Ol r f.1,Zw t f.2]
theorem j9{A:Around}{s:Shared}{x:V}{v:Value}(rx:RelV x v)(fx:vg x=true):∀{xs:List V}{us:List Value},Vals xs us->xs.all vg=true->∀u∈us,SeqAt.EqAt A s u v (eqU x u)
 |_,_,.nil,_=>λu hu=>by cases hu
 |y::xs,u::us,.cons r t,f=>λu' hu=>by
  rw[List.all_cons,yY]at f;rcases zL.mp hu with rfl|hu
  ·rw[Ol r f.1];exact Gv r rx f.1 fx
  ·exact j9 rx fx t f.2 u' hu
def inV(x:V)(xs:List V):Bool:=xs.any λy=>eqV y x
def rIn(K:W.Frag)(neg:Bool):R2:=λx y H Q=>∃p xs,y = .ref p/\(SqL K H p xs\/SqT K H p xs)/\vg x=true/\xs.all vg=true/\Q (.bl (if neg then !inV x xs else inV x xs)) H
theorem To:OpR X (compareOp .In) (rIn X.K false):=by
 intro pins s σ H x y v u Q I rx ry h;obtain⟨p,xs,rfl,hq,fx,fs,q⟩:=h;cases ry;rcases hq with hq|hq
 ·obtain⟨aJ,r,pl,hz⟩:=I.list hq;refine SeqAt.in_listAt (eqU x) pl.isList (λw hw=>j9 rx fx r fs w (by simpa using hw)) ⟨.bl _,H,I,rfl,?_⟩;rw[show aJ.toArray.any (eqU x)=aJ.any (eqU x)by simp,Zw r fs];exact q
 ·obtain⟨aJ,r,pl,hz⟩:=I.tuple hq;refine SeqAt.in_tupleAt (eqU x) pl (λw hw=>j9 rx fx r fs w (by simpa using hw)) ⟨.bl _,H,I,rfl,?_⟩;rw[show aJ.toArray.any (eqU x)=aJ.any (eqU x)by simp,Zw r fs];exact q
theorem Zy:vf X (.builtin "len") (λxs H Q=>∃p ys,xs=[.ref p]/\(SqL X.K H p ys\/SqT X.K H p ys)/\Q (.int ys.length) H):=by
 intro pins s σ H xs us Q I r h;obtain⟨p,ys,rfl,hq,q⟩:=h;obtain⟨u,rfl,rx⟩:=qk r;cases rx;have hn:=gc;rcases hq with hq|hq
 ·obtain⟨aJ,r',pl,hz⟩:=I.list hq;have aZ:=r'.length;exact Calls.call_len_list pl.isList (by simp only[zN]<;>lia) ⟨.int ys.length,H,I.tok _,⟨s.toks+1,by rw[zN,aZ]⟩,q⟩
 ·obtain⟨aJ,r',pl,hz⟩:=I.tuple hq;have aZ:=r'.length;exact len_tuple pl (by simp only[zN]<;>lia) ⟨.int ys.length,H,I.tok _,⟨s.toks+1,by rw[zN,aZ]⟩,q⟩
theorem Zz:vf X (.builtin "len") (λxs H Q=>∃z,xs=[.str z]/\z.length<=sizeLine/\Q (.int z.length) H):=by
 intro pins s σ H xs us Q I r h;obtain⟨z,rfl,hz,q⟩:=h;obtain⟨u,rfl,t,rfl⟩:=qk r;have hn:=gc;exact len_str (by lia) ⟨.int z.length,H,I.tok _,⟨_,rfl⟩,q⟩
theorem qh:vf X (.type "tuple") (λxs H Q=>∃p ys,xs=[.ref p]/\((SqL X.K H p ys/\∀l,H l=none->Q (.ref l) (upd H l (.tup ys)))\/(SqT X.K H p ys/\Q (.ref p) H))):=by
 intro pins s σ H xs us Q I r h;obtain⟨p,ys,rfl,h⟩:=h;obtain⟨u,rfl,rx⟩:=qk r;cases rx;rcases h with⟨hq,q⟩|⟨hq,q⟩
 ·obtain⟨aJ,r',pl,hz⟩:=I.list hq;have aZ:=r'.length;refine call_tuple_list pl.isList (λh' kp=>?_) (by simp only[zN]<;>lia);have I1:Inv X pins σ H { s with heap:=h' }:=I.kept (t':=s.toks) kp;have I2:Inv X pins σ (upd H h'.objs.size (.tup ys)) { s with heap:=h'.push { cls:=.type "tuple",data:=.seq aJ.toArray } } :=
   I1.laid (t':=s.toks) (λb o e=>zY _ e) (zT _) (show ObjOk X.prog X.w _ _ _ (.tup ys)from⟨hz,aJ,r',IsTup.new _ _⟩)
  exact⟨.ref h'.objs.size,_,I2,rfl,q _ (I1.hok.fresh (zT _))⟩
 ·obtain⟨aJ,r',pl,hz⟩:=I.tuple hq;exact call_tuple_same pl ⟨.ref p,H,I,rfl,q⟩
def tyV(K:W.Frag)(T:String)(x:V)(H:Hp):Prop:=match x with
 | .str _=>T="str"
 | .int _=>T="int"
 | .ref p=>(T="list"/\∃xs,SqL K H p xs)\/(T="tuple"/\∃o,K.lookup p=some o/\o.cls = .type "tuple"/\o.dict=none) \/
   (T="dict"/\((∃kvs,H p=some (.dK kvs))\/∃kvs,H p=some (.dT kvs)))\/(T="set"/\∃S n,H p=some (.set S n))
 |_=>False
theorem Ka{pins:List (Addr×Obj)}{σ:St}{H:Hp}{s:Shared}{T:String}{x:V}{v:Value}(I:Inv X pins σ H s)(r:RelV x v)(ty:tyV X.K T x H):
  s.TypeIs v T/\∀a,v = .ref a->∃ob,s.heap.get? a=some ob/\ob.dict=none:=by
 cases x with
 |str z =>
  obtain⟨t,rfl⟩:=r;cases(show T="str" from ty);exact⟨uO s z t,λ_ e=>nomatch e⟩
 |int i =>
  obtain⟨t,rfl⟩:=r;cases(show T="int" from ty);exact⟨typeIs_int s i t,λ_ e=>nomatch e⟩
 |ref p =>
  cases r;rcases ty with⟨rfl,xs,hq⟩|⟨rfl,o,hk,hc,hd⟩|⟨rfl,hk⟩|⟨rfl,S,n,hk⟩
  ·obtain⟨aJ,_,pl,_⟩:=I.list hq;refine⟨pl.isList.typeIs,λa e=>?_⟩;cases e;obtain⟨o,n,e,c,hd,_⟩:=pl;exact⟨o,e,hd⟩
  ·refine⟨⟨o,I.kIn p o hk,hc⟩,λa e=>?_⟩;cases e;exact⟨o,I.kIn _ o hk,hd⟩
  ·have z:∃o,s.heap.get? p=some o/\o.ExactDict:=by
    rcases hk with⟨kvs,hk⟩|⟨kvs,hk⟩
    ·obtain⟨_,_,_,_,o,_,_,e,ex,_⟩:=I.hok p _ hk;exact⟨o,e,ex⟩
    ·obtain⟨_,_,_,_,o,_,_,e,ex,_⟩:=I.hok p _ hk;exact⟨o,e,ex⟩
   obtain⟨o,e,ex⟩:=z;refine⟨⟨o,e,ex.1⟩,λa e2=>?_⟩;cases e2;exact⟨o,e,ex.2.1⟩
  ·obtain⟨o,_,_,_,e,ex,_⟩:=I.hok p _ hk;refine⟨⟨o,e,ex.1⟩,λa e2=>?_⟩;cases e2;exact⟨o,e,ex.2.1⟩
 |_=>exact False.elim ty
variable {o e:Expr}{es:List Expr}{to:TE}{t:TA}{name:Str}{apos cpos:Pos}{T id:String}{r:V->List V->Hp->VK->Prop}
end
end L2
namespace L2
open PySem PySem.Spec PyProof.Rows
def MtM(X:Cx)(id:String)(r:V->List V->Hp->VK->Prop):Prop :=
 ∀(pins:List (Addr×Obj))(s:Shared)(σ:St)(H:Hp)(x:V)(xs:List V)(v:Value)(us:List Value)(Q:VK),Inv X pins σ H s->RelV x v->Vals xs us->r x xs H Q ->
  wpAny (model X.prog X.w) X.A (call (.builtin id) (v::us)) (EP X pins σ Q) X.xe s
theorem Vals.one:∀{x:V}{us:List Value},Vals [x] us->∃u,us=[u]/\RelV x u
 |_,_,.cons r .nil=>⟨_,rfl,r⟩
section
variable {X:Cx}{pins:List (Addr×Obj)}{σ:St}{H:Hp}{s:Shared}{l b:Addr}{xs ys zs:List V}
theorem Inv.lset{aJ its':List Value}{n:Nat}{f:Array Value->Array Value}{t':Nat}(I:Inv X pins σ H s)(hH:H l=some (.lst xs))
  (e:s.heap.get? l=some { cls:=.type "list",data:=.seq aJ.toArray n }) (hf:f aJ.toArray=its'.toArray) (hv:Vals ys its') (hz:ys.length<=sizeLine) :
  Inv X pins σ (upd H l (.lst ys)) { s with heap:=s.heap.update l (Obj.mapSeq f),toks:=t' }:=by
 have q:=PySem.IsL.update e f;rw[hf]at q;refine I.write (x:=l) (e:=l) (by rw[hH];exact trivial) (.inl rfl) (λb' u hb hu=>(yR s.heap (Obj.mapSeq f) (wU hb)).trans hu) ⟨_,q⟩ ?_;exact⟨hz,its',_,hv,q⟩
theorem Inv.lnew{aJ:List Value}{t':Nat}(I:Inv X pins σ H s)(hv:Vals ys aJ)(hz:ys.length<=sizeLine):
  Inv X pins σ (upd H s.heap.objs.size (.lst ys)) { s with heap:=s.heap.push { cls:=.type "list",data:=.seq aJ.toArray },toks:=t' } :=
 I.laid (λ_ _ q=>zY _ q) (zT _) ⟨hz,aJ,0,hv,zS _ rfl⟩
theorem Inv.fresh(I:Inv X pins σ H s):H s.heap.objs.size=none:=I.hok.fresh (zT _)
theorem Inv.lstM(I:Inv X pins σ H s)(hH:H l=some (.lst xs)):xs.length<=sizeLine/\∃(aJ:List Value)(n:Nat),Vals xs aJ/\xs.length=aJ.length/\s.heap.get? l=some { cls:=.type "list",data:=.seq aJ.toArray n }:=by
 obtain⟨z,aJ,n,r,e⟩:=I.hok l _ hH;exact⟨z,aJ,n,r,r.length,e⟩
theorem Y3{n:Nat}(h:n<=sizeLine):Builtin.List.listTooLong n=false:=by
 unfold Builtin.List.listTooLong;exact yV (by lia)
end
section
variable {X:Cx}
def Mx:V->List V->Hp->VK->Prop:=λx vs H Q=>∃l xs y,x = .ref l/\vs=[y]/\H l=some (.lst xs)/\xs.length<sizeLine/\Q .non (upd H l (.lst (xs++[y])))
theorem ci:MtM X "list.append" Mx:=by
 intro pins s σ H x vs v us Q I rx rv h;obtain⟨l,xs,y,rfl,rfl,hH,hz,q⟩:=h;cases rx;obtain⟨u,rfl,ru⟩:=rv.one;obtain⟨z,aJ,n,r,hl,e⟩:=I.lstM hH;refine call_meets F.slot_list_append ⟨_,e,rfl⟩ F.entry_list_append (F.args_list_append_2 _ _) (PySem.list_append l aJ.toArray n u (by rw[zN];lia)) ⟨e,?_⟩;refine⟨.non,_,I.lset (its':=aJ++[u]) hH e (by simp) (r.append (.cons ru .nil)) ?_,rfl,q⟩;rw[zE,uX];lia
def Mz:V->List V->Hp->VK->Prop:=λx vs H Q=>∃l b xs zs,x = .ref l/\vs=[.ref b]/\H l=some (.lst xs)/\H b=some (.lst zs)/\xs.length+zs.length<=sizeLine/\Q .non (upd H l (.lst (xs++zs)))
theorem S8:MtM X "list.extend" Mz:=by
 intro pins s σ H x vs v us Q I rx rv h;obtain⟨l,b,xs,zs,rfl,rfl,hH,hB,hz,q⟩:=h;cases rx;obtain⟨u,rfl,ru⟩:=rv.one;cases ru;obtain⟨z,aJ,n,r,hl,e⟩:=I.lstM hH;obtain⟨z2,kF,n2,r2,sK,e2⟩:=I.lstM hB;have bY:aJ.toArray.size+kF.toArray.size<=sizeLine:=by rw[zN,zN];lia
 have UO:¬(!aJ.toArray.isEmpty&&Builtin.List.listTooLong (aJ.toArray.size+kF.toArray.size))=true:=by
  rw[Y3 bY,uP];exact zH
 refine call_meets F.slot_list_extend ⟨_,e,rfl⟩ F.entry_list_extend (F.args_list_extend_2 _ _)
  (AutoSeq1.list_extend_list_list_0 l aJ.toArray n b kF.toArray n2 UO (by rw[zN];lia) (by lia)) ⟨e,e2,?_⟩
 refine⟨.non,_,I.lset (its':=aJ++kF) hH e (by simp) (r.append r2) ?_,rfl,q⟩;rw[zE];lia
def By:R2:=λx y H Q=>∃l b xs zs,x = .ref l/\y = .ref b/\H l=some (.lst xs)/\H b=some (.lst zs)/\xs.length+zs.length<=sizeLine/\∀p,H p=none->Q (.ref p) (upd H p (.lst (xs++zs)))
theorem Ij:OpR X (binaryOp .Add) By:=by
 intro pins s σ H x y v u Q I rx ry h;obtain⟨l,b,xs,zs,rfl,rfl,hH,hB,hz,q⟩:=h;cases rx;cases ry;obtain⟨z,aJ,n,r,hl,e⟩:=I.lstM hH;obtain⟨z2,kF,n2,r2,sK,e2⟩:=I.lstM hB;refine PySem.P.add_list e e2 ?_ (by rw[zN,zN];lia);have ea:aJ.toArray++kF.toArray=(aJ++kF).toArray:=by simp
 rw[ea];exact⟨.ref _,_,I.lnew (t':=s.toks) (r.append r2) (by rw[zE];lia),rfl,q _ I.fresh⟩
end
section
variable {prog:Program}{w:World}{A:Around}{E:Value->Shared->Prop}{s:Shared}
end
section
variable {X:Cx}
end
end L2
namespace Att
open PySem PySem.W PySem.Calls PyProof.Rows
theorem ml{P:Params}{h:Heap}:∀(ns:List Int)(vs:List Value),WellAll P h vs (ns.map WData.int)->IntsAre vs ns:=by
 intro ns
 induction ns with
 |nil =>
  intro vs w;rw[List.map_nil]at w;cases w;exact .nil
 |cons n ns ih =>
  intro vs w;rw[List.map_cons]at w;cases w with
  |cons a b =>
   cases a;exact .cons _ _ (ih _ b)
theorem T0{l:OpenLaw}{n:Nat}(hn:l.most=some n){P:Params}{h:Heap}{args:List WData}{GI:List Value}
  (oZ:l.row.toRowW.claim.pre args=true) (hwl:WellAll P h GI args) :
  ∃a vs ns,GI=[Value.ref a]/\args=[WData.list (ns.map WData.int)]/\h.get? a=some { cls:=.type "list",data:=.seq vs.toArray }/\IntsAre vs ns/\ns.length<=n:=by
 have hsh:WShape.hasAll [] args [.list .int]=true:=(pre_splitW oZ).1;have hc:l.pre.holds [] { args:=args }=true:=(pre_splitW oZ).2;obtain⟨d,r,rfl,h1,h2⟩:=hasAllW_cons hsh;obtain rfl:=hasAllW_nil h2;obtain⟨xs,rfl,h3⟩:=hasW_list h1;obtain⟨ns,rfl⟩:=items_int h3;have aZ:ns.length<=n:=by
  unfold OpenLaw.pre at hc;have h4:(WTm.not (.lt (.lit (.int (n:Int))) (.len (.arg 0)))).holds [] { args:=[.list (ns.map .int)] }=true:=by
   have h4:=(holds_andW hc).1;rw[hn]at h4;exact h4
  have h5:=condW_of h4 (w_not (w_lt w_lit (w_len_list (w_arg rfl))));rw[zV]at h5;refine Nat.le_of_not_lt λq=>?_;have q':(n:Int)<((ns.length:Nat):Int):=by lia
  first
   |(rw[zI q']at h5;exact absurd h5 (by decide))
   |(simp at h5;lia)
 cases hwl with
 |cons w1 w2 =>
  cases w2;cases w1 with
  |list ho cS=>exact⟨_,_,ns,rfl,rfl,ho,ml ns _ cS,aZ⟩
theorem Tr(l:OpenLaw)(args:List WData):l.row.toRowW.claim.post args (.bool true) args=true :=
 postW_of (r:=l.row.toRowW) (X:=(true==true))
  (show WShape.has [] (.bool true) .bool=true by first|rfl|decide|simp[WShape.has,WShape.arms,WShape.armsAll])
  (show(WTm.eq .res (.lit (.bool true))).value [] { args:=args,res:=some (.bool true),after:=args }=some (.bool (true==true))from w_eq_bool (w_res rfl) w_lit) rfl
theorem attach_call{l:OpenLaw}{n:Nat}{q:Program}{oH:List Str}{XP:(Str->Option Value)->Heap->Prop}{YP:World->Heap->Prop}{d:DefRec}
  (hn:l.most=some n) (VA:d.params.defaults=[])
  (call:∀(w:World)(s₀ s₁:Shared)(mg mb:Str->Option Value)(fa:Addr)(o:Obj)(pm cd doc:Value)(a:Addr)(vs:List Value)(ns:List Int),
   Ground q oH [] XP w s₀ mg mb s₁.heap->YP w s₁.heap ->
   s₁.heap.get? fa=some o->o.data = .func (docDef d.name d.params d.body d.scope pm cd doc)->s₁.heap.CodeRec cd d.name->mg d.name=some (.ref fa) ->
   s₁.heap.get? a=some { cls:=.type "list",data:=.seq vs.toArray }->IntsAre vs ns->ns.length<=n->s₁.gens=#[] ->
   codeAny (model l.prog w) callerA (.call (.ref fa) ⟨[.ref a],[]⟩) (λr s'=>r = .ok (.ret (.bool true))/\OldK s₁.heap s'.heap/\s'.os=s₁.os/\AllBare s'.gens) s₁) :
  WalkO q oH XP YP l.row.toRowW d [] (λf vs=>PySem.call f vs):=by
 intro w s₀ s₁ mg mb G Y fa o pm cd doc dV kV ho hd pN hD UN hg args GI as oZ HI UH hwl ES;obtain rfl:dV = .none:=Dflts.none hD VA;obtain rfl:kV = .none:=Dflts.noKw hD;obtain⟨a,vs,ns,rfl,rfl,HF,BQ,aZ⟩:=T0 hn oZ hwl;refine enter_call (vP (call w s₀ s₁ mg mb fa o pm cd doc a vs ns G Y ho (fd_plain hd) pN UN HF BQ aZ hg) λr s' hq=>?_);obtain⟨rfl,h2,h3,h4⟩:=hq;exact⟨.inl ⟨.bool true,.bool true,[],rfl,λ_=>rfl,.bool true,Tr l _,λ_=>⟨List.Pairwise.nil,λ_ hm=>(nomatch hm)⟩⟩,h2,h3,h4⟩
section
variable {prog:Program}{w:World}{A:Around}{E:Value->Shared->Prop}{s:Shared}{K:Frag}
def A8(h:Heap)(L d:Addr):List (Addr×Obj):=(List.range h.objs.size).filterMap λa=>if a=L\/a=d then none else(h.get? a).map λo=>(a,o)
end
end Att
namespace L2
open PySem PySem.Spec PyProof.Rows
theorem dv:∀{vs:List Value}{ns:List Int},IntsAre vs ns->Vals (ns.map V.int) vs
 |_,_,.nil=>.nil
 |_,_,.cons n t h=>.cons ⟨t,rfl⟩ (dv h)
def Gf(H:Hp):Prop:=∀b,H b=none\/∃o xs,H b=some (.frz o (.lst xs))
theorem O3{P:Program}{w:World}{K:W.Frag}{mg mb:Str->Option Value}{CX:CXT}{k:Nat}{fa a:Addr}{fd:FuncData}{x:Str}{sp:Sp}{s₁:Shared}{vs:List Value}{ns:List Int}
  (KX:K.In s₁.heap) (EN:s₁.heap.Ns mainGlobals mg) (hb:s₁.heap.Ns builtinsNs mb) (hbb:∀x:Str,x≠"__name__"->mb x=bootBuiltins x) (hlim:s₁.heap.NoLimit) (hg:s₁.gens=#[])
  (ha:s₁.heap.get? a=some { cls:=.type "list",data:=.seq vs.toArray }) (hi:IntsAre vs ns) (hl:ns.length<=sizeLine) (hr:Room k callerA)
  (F:∀base:Heap,K.In base->base.Ns mainGlobals mg->vc P w K mg base CX k fa fd [x] sp) (VD:∀(s:Shared)(u:Value),BindsTo s fd ⟨[u],[]⟩ [(x,u)])
  (oK:∀H:Hp,Gf H->SqL K H a (ns.map V.int)->sp [.ref a] H (λv _=>v = .bl true) λ_ _ _=>False)
  (hCX:∀H e s',CX [] H s₁ (λ_ _ _=>False) e s'->False) :
  codeAny (model P w) callerA (.call (.ref fa) ⟨[.ref a],[]⟩) (λr s'=>r = .ok (.ret (.bool true))/\OldK s₁.heap s'.heap/\s'.os=s₁.os/\AllBare s'.gens) s₁:=by
 have rv:=dv hi;have lenV:=hi.length;have XY:∀H:Hp,Gf H->SqL K H a (ns.map V.int)->HOk P w H s₁.heap->(∀b,H b≠none->b=a)->(H a≠none->K.lookup a=none) ->
   codeAny (model P w) callerA (.call (.ref fa) ⟨[.ref a],[]⟩) (λr s'=>r = .ok (.ret (.bool true))/\OldK s₁.heap s'.heap/\s'.os=s₁.os/\AllBare s'.gens) s₁:=by
  intro H hO hS hok hA hK;have sQ:∀{b:Addr}{o:Obj},s₁.heap.get? b=some o->H b=none->(Z5 s₁.heap H).get? b=some o:=λe n=>Oq e n;have PV:∀{b:Addr}{o:Obj}{es:Array DictEntry}{ep:Nat},s₁.heap.get? b=some o->o.data = .dict es ep->H b=none:=λ{b o es ep} e d=>by
   cases q:H b with
   |none=>rfl
   |some u =>
    have e':b=a:=hA b (by rw[q];simp);subst e';rw[ha]at e;cases e;have d':Data.seq vs.toArray _=Data.dict es ep:=d;cases d'
  have nsK:∀{b:Addr}{m:Str->Option Value},s₁.heap.Ns b m->(Z5 s₁.heap H).Ns b m:=λ{b m} ⟨o,es,ep,e,d,r⟩=>⟨o,es,ep,sQ e (PV e d),d,r⟩
  have hKb:K.In (Z5 s₁.heap H):=λb o e=>sQ (KX b o e) (by
   cases q:H b with
   |none=>rfl
   |some u =>
    have e':b=a:=hA b (by rw[q];simp);subst e';rw[hK (by rw[q];simp)]at e;cases e)
  have hM:Mod K mg (Z5 s₁.heap H):=⟨hKb,nsK EN,⟨mb,nsK hb,hbb⟩,let⟨mc,h1,h2⟩:=hlim;⟨mc,nsK h1,h2⟩⟩
  have e0:Env0 P w K mg (Z5 s₁.heap H) callerA [] s₁ H:=⟨rfl,hM,λb o e=>L6 e,uH (Sl _ _),trivial,λb hb=>absurd (show b∈([]:List Addr)from hb) (by simp),hok,.of_eq hg⟩
  refine vP ((F _ hKb (nsK EN)).run callerA [] s₁ H ⟨[.ref a],[]⟩ [.ref a] [.ref a] _ _ hr e0 (VD s₁ (.ref a)) (.cons rfl .nil) (oK H hO hS)) λr s' h=>?_;cases r with
  |error e=>exact(hCX H e s' h).elim
  |ok fl =>
   cases fl with
   |next=>exact False.elim h
   |brk=>exact False.elim h
   |cont=>exact False.elim h
   |ret u =>
    obtain⟨v,H',os,bare,un,hok',r',q⟩:=h;have q':v = .bl true:=q;subst q';obtain rfl:u=Value.bool true:=r';refine⟨rfl,OldK.of_keep λb o e=>?_,os,bare⟩;cases q:H b with
    |none=>exact un.keep b o e q (by intro z;exact absurd (show b∈([]:List Addr)from z) (by simp)) (by simp)
    |some u =>
     rcases hO b with z|⟨ob,xs,z⟩
     ·rw[q]at z;cases z
     ·have z2:=un.frzs b ob _ z;obtain⟨e1,_⟩:=hok b _ z;obtain⟨e2,_⟩:=hok' b _ z2;rw[e]at e1;cases e1;exact e2
 cases hk:K.lookup a with
 |some o =>
  have e:=KX a o hk;rw[ha]at e;cases e;refine XY (λ_=>none) (λ_=>.inl rfl) (.inr ⟨_,vs.toArray,_,hk,rfl,rfl,rfl,by rw[zN,lenV];exact hl,by simpa using rv⟩) (λb u z=>by have z':(none:Option HO)=some u:=z;cases z') (λb z=>absurd rfl z) λz=>absurd rfl z
 |none =>
  refine XY (λb=>if b=a then some (.frz { cls:=.type "list",data:=.seq vs.toArray } (.lst (ns.map V.int)))else none) (λb=>?_) (.inl (.inr ⟨{ cls:=.type "list",data:=.seq vs.toArray },zG rfl⟩)) (λb u z=>?_) (λb z=>?_) λ_=>hk
  ·by_cases hb:b=a
   ·exact .inr ⟨_,_,zG hb⟩
   ·exact .inl (zM hb)
  ·by_cases hb:b=a
   ·have z':=(zG hb).symm.trans z;cases z';subst hb;exact⟨ha,by rw[zV];exact hl,vs,_,rv,ha⟩
   ·have z':=(zM hb).symm.trans z;cases z'
  ·by_cases hb:b=a
   ·exact hb
   ·exact absurd (zM hb) z
end L2
namespace L2
open PySem PySem.Spec PyProof.Rows
theorem walk_of{l:W.OpenLaw}{n k:Nat}{q:Program}{oH:List Str}{XP:(Str->Option Value)->Heap->Prop}{YP:World->Heap->Prop}{d:DefRec}{K:Params->W.Frag}{CX:World->CXT}{sp:World->Sp}{x:Str}
  (hn:l.most=some n) (CO:n<=sizeLine) (VA:d.params.defaults=[]) (hr:Room k callerA)
  (hY:∀(w:World)(h:Heap),YP w h->(K w.params).In h)
  (F:∀(w:World)(mg:Str->Option Value)(fa:Addr)(h:Heap),(K w.params).In h->h.Ns mainGlobals mg->mg d.name=some (.ref fa) ->
   ∃fd:FuncData,(∀(s:Shared)(u:Value),BindsTo s fd ⟨[u],[]⟩ [(x,u)]) /\
    ∀base:Heap,(K w.params).In base->base.Ns mainGlobals mg->vc l.prog w (K w.params) mg base (CX w) k fa fd [x] (sp w))
  (oK:∀(w:World)(H:Hp)(a:Addr)(ns:List Int),ns.length<=n->Gf H->SqL (K w.params) H a (ns.map V.int)->sp w [.ref a] H (λv _=>v = .bl true) λ_ _ _=>False)
  (hCX:∀(w:World)(H:Hp)(s:Shared)(e:Value)(s':Shared),CX w [] H s (λ_ _ _=>False) e s'->False) :
  W.WalkO q oH XP YP l.row.toRowW d [] (λf vs=>PySem.call f vs):=by
 refine Att.attach_call hn VA λw s₀ s₁ mg mb fa o pm cd doc a vs ns G Y ho hd pN UN HF BQ aZ hg=>?_;have KX:=hY w _ Y;obtain⟨fd,hb,hF⟩:=F w mg fa _ KX G.T.g UN;exact O3 KX G.T.g G.T.b G.T.builtins G.T.nolimit hg HF BQ (yQ aZ CO) hr hF hb (λH hO hS=>oK w H a ns aZ hO hS) λH e s'=>hCX w H s₁ e s'
end L2
namespace L2
open PySem PySem.Spec PyProof.Rows
def zp(s:Stmt):Arguments:=match s with
 | .FunctionDef _ a _ _ _ _ _ _ _ _=>a
 |_=>{ posonlyargs:=[],args:=[],vararg:=none,kwonlyargs:=[],kw_defaults:=[],kwarg:=none,defaults:=[] }
def zr(s:Stmt):List Stmt:=match s with
 | .FunctionDef _ _ b _ _ _ _ _ _ _=>b
 |_=>[]
def zy(s:Stmt):Scope:=match s with
 | .FunctionDef _ _ _ _ _ _ sc _ _ _=>sc
 |_=>{ kind:=.function,names:=[],isGenerator:=false,isCoroutine:=false }
abbrev CX0:CXT:=λ_ _ _ _ _ _=>False
abbrev E0:XK:=λ_ _ _=>False
theorem Qb{X:Cx}:wj CX0 X E0:=λ_ _ _ _ _ _ _ h=>h.elim
structure Fun(K:W.Frag)(x qual:Str)(st:Stmt)(f:Addr)(fd:FuncData):Prop where
 ex:∃(oc:Value)(od:Option Addr)(kV doc pm:Value)(an:Option Addr)(cdv ct:Value)(osl:Array (Option Value)),
  fd=W.fnOf x qual (zp st) (zr st) (zy st) .none kV doc pm an cdv ct/\K.lookup f=some ⟨oc,od,.func fd,osl⟩/\W.codeIn K cdv qual=true
 kp:W.keepIn K (.ref f)=true
section
variable {P:Program}{w:World}{K:W.Frag}{mg:Str->Option Value}{base:Heap}
theorem Fun.ok{x qual:Str}{st:Stmt}{f:Addr}{fd:FuncData}{N ps:List Str}{k:Nat}{sp:Sp}(F:Fun K x qual st f fd)(S:zm N ps (zy st))(len:∀vs H Q E,sp vs H Q E->vs.length=ps.length)
  (bF:∀(cdv:Value)(A:Around)(outer:List Env)(s:Shared)(H:Hp)(vs:List V)(Q:VK)(E:XK),Room k (A.deeper (envOfC qual (zy st) s.heap.objs.size f cdv))->sp vs H Q E ->
   ∃t,PSs (ww CX0 P w K mg base N qual (zy st) f cdv A outer s H E).nox (zr st) t/\t { nx:=λ_ H'=>Q .non H',rt:=Q } (start N vs) H):vc P w K mg base CX0 (k+1) f fd ps sp:=by
 obtain⟨oc,od,kV,doc,pm,an,cdv,ct,osl,rfl,lk,pN⟩:=F.ex;refine Om lk pN S len λA outer s H vs Q E hr oK=>?_;obtain⟨t,h,q⟩:=bF cdv A outer s H vs Q E hr oK;exact⟨t,h.nox,q⟩
theorem Z3{x qual:Str}{st:Stmt}{f:Addr}{oc:Value}{od an:Option Addr}{osl:Array (Option Value)}{kV doc pm cdv ct:Value}(l:K.lookup f=some ⟨oc,od,.func (W.fnOf x qual (zp st) (zr st) (zy st) .none kV doc pm an cdv ct),osl⟩)
  (c:W.codeIn K cdv qual=true) (k:W.keepIn K (.ref f)=true):Fun K x qual st f (W.fnOf x qual (zp st) (zr st) (zy st) .none kV doc pm an cdv ct):=⟨⟨oc,od,kV,doc,pm,an,cdv,ct,osl,rfl,l,c⟩,k⟩
end
theorem ri{n:Nat}(h:n<=1000):n<sizeLine:=Nat.lt_of_le_of_lt h (by decide)
section
variable {X:Cx}
end
theorem xi{c A B:Prop}[Decidable c](h1:c->A)(h2:¬c->B):if c then A else B:=by
 by_cases h:c
 ·rw[zG h];exact h1 h
 ·rw[zM h];exact h2 h
def Same(H H':Hp):Prop:=∀b o,H b=some o->H' b=some o
theorem Same.refl(H:Hp):Same H H:=λ_ _ h=>h
theorem Same.trans{H H1 H2:Hp}(a:Same H H1)(b:Same H1 H2):Same H H2:=λc o h=>b c o (a c o h)
theorem Same.seq{K:W.Frag}{H H':Hp}{a:Addr}{xs:List V}(e:Same H H')(h:SqL K H a xs):SqL K H' a xs:=by
 rcases h with(h|⟨o,h⟩)|h
 ·exact .inl (.inl (e _ _ h))
 ·exact .inl (.inr ⟨o,e _ _ h⟩)
 ·exact .inr h
end L2
namespace L2
open PySem PySem.Spec PyProof.Rows
section
variable {κ:Type} [DecidableEq κ]
def Nw(kvs:List (κ×V))(k:κ):Option V:=(kvs.find? λkv=>decide (kv.1=k)).map (·.2)
def Ts(kvs:List (κ×V))(k:κ)(v:V):List (κ×V) :=
 if(kvs.any λkv=>decide (kv.1=k))=true then kvs.map (λkv=>if kv.1=k then(kv.1,v)else kv)else kvs++[(k,v)]
def Af(kvs:List (κ×V))(k:κ):List (κ×V):=kvs.filter λkv=>decide (kv.1≠k)
theorem F8{p:κ×V}{r:List (κ×V)}{k:κ}(e:p.1=k):Nw (p::r) k=some p.2:=by simp[Nw,List.find?_cons,e]
theorem RelO.getD{o:Option V}{u:Option Value}{d:V}{d':Value}(r:RelO o u)(rd:RelV d d'):RelV (o.getD d) (u.getD d'):=by
 cases o with
 |none=>cases u with
  |none=>exact rd
  |some _=>exact(show False from r).elim
 |some _=>cases u with
  |none=>exact(show False from r).elim
  |some _=>exact r
theorem KV.length{kvs:List (κ×V)}{vs:List (κ×Value)}(r:KV kvs vs):kvs.length=vs.length:=Paired.length r
end
theorem Kk{P:Program}{w:World}{k:Key}{u:Value}(r:RelV (kV k) u):(uz P w).is k u=true:=by
 cases k with
 |inl i=>obtain⟨t,e⟩:=(show∃t,u=Value.int i t from r);subst e;exact Y1 P w i t
 |inr x=>obtain⟨t,e⟩:=(show∃t,u=Value.str x t from r);subst e;exact wc P w x t
abbrev KT(H:Hp):List (List Key×V)->List (List Key×Addr×Value)->Prop:=Paired λp q=>p.1=q.1/\H q.2.1=some (.tup (p.1.map kV))/\RelV p.2 q.2.2
section
variable {P:Program}{w:World}{H:Hp}{h:Heap}{a:Addr}
end
def Ab(H:Hp)(a:Addr)(y:V)(r:Option V):Prop :=
 (∃kvs k,Rd H a (.dK kvs)/\y=kV k/\r=Nw kvs k)\/∃kvs k b,Rd H a (.dT kvs)/\y = .ref b/\H b=some (.tup (k.map kV))/\r=Nw kvs k
def Ac(H:Hp)(a:Addr)(y v:V)(H':Hp):Prop :=
 (∃kvs k,H a=some (.dK kvs)/\y=kV k/\kvs.length<sizeLine/\H'=upd H a (.dK (Ts kvs k v))) \/
 ∃kvs k b,H a=some (.dT kvs)/\y = .ref b/\H b=some (.tup (k.map kV))/\kvs.length<sizeLine/\H'=upd H a (.dT (Ts kvs k v))
section
variable {X:Cx}{pins:List (Addr×Obj)}{σ:St}{H:Hp}{s:Shared}{a:Addr}{y v:V}{u r:Value}{o:Option V}{A:Around}{E:Value->Shared->Prop}
theorem Inv.big(I:Inv X pins σ H s):sysModules<s.heap.objs.size:=by
 have h:mainGlobals<s.heap.objs.size:=(I.mod.glob.keeps I.bk).lt;exact sY (by decide) h
end
section
variable {X:Cx}{pins:List (Addr×Obj)}{σ:St}{H:Hp}{s:Shared}{a:Addr}{kvs:List (Key×V)}{k:Key}{u:Value}{A:Around}{E:Value->Shared->Prop}
end
def Cd(i:Expr):Prop:=∀ov iv,subscripted i false ov iv=operate [ov,iv] (getItem ov iv)
theorem No{prog:Program}{w:World}{A:Around}{E:Value->Shared->Prop}{s:Shared}{env:Env}{value slice:Expr}{pos:Pos}{T id:String}{Q:Value->Shared->Prop}
  (hl:typeLookup (.type T) "__getitem__"=pure (some (.builtin id))) (hs:Cd slice)
  (h:wpAny (model prog w) A (eval value env) (λo s₁=>wpAny (model prog w) A (eval slice env) (λi s₂=>s₂.TypeIs o T/\wpAny (model prog w) A (getItem o i) Q E s₂) E s₁) E s) :
  wpAny (model prog w) A (eval (.Subscript value slice pos) env) Q E s:=by
 refine Subscript_ (yN h (λo s₁ h₁=>yN h₁ (λi s₂ h₂=>?_) λ_ _ x=>x) λ_ _ x=>x);obtain⟨hT,h₂⟩:=h₂;unfold subscriptTail;refine zZ ?_;rw[getitemInPython_of_ne hT.not_modules];refine zZ (wpAny_specialOf hT hl ?_);have cJ:wpAny (model prog w) A (subscripted slice false o i) (λr s₃=>wpAny (model prog w) A (letTemporaryGo value o r >>=λ_=>pure r) Q E s₃) E s₂:=by
  rw[hs o i];exact wpAny_operating (yN h₂ (λr s₃ h₃=>zZ (wpAny_letTemporaryGo (zW h₃))) λ_ _ x=>x)
 first
  |exact zW (zZ cJ)
  |exact zZ (zW (zZ cJ))
  |exact zZ cJ
section
variable {X:Cx}{o i e value:Expr}{pos jW tpos:Pos}{td ty tv:TE}
end
theorem Oj{P:Program}{w:World}{H:Hp}(h:Heap)(hb:sysModules<h.objs.size):ObjOk P w H (h.push { cls:=.type "dict",data:=.dict #[] }) h.objs.size (.dK []) :=
 ⟨yJ _,xR.mpr (wU (zC hb)),[],.nil,Heap.DictOf.new h⟩
def J0:TE:=λ_ H Q=>∀p,H p=none->Q (.ref p) (upd H p (.dK []))
section
variable {X:Cx}{pos:Pos}
theorem Qc:PE X (.Dict [] [] pos) J0:=λpins s σ H Q I h =>
 wpAny_Dict_empty ⟨.ref s.heap.objs.size,_,I.laid (a:=s.heap.objs.size) (o:=.dK []) (t':=s.toks) (λ_ _ q=>zY _ q) (zT _) (Oj s.heap I.big),rfl,h _ (I.hok.fresh (zT _))⟩
end
structure M1(X:Cx)(o:Expr)(m:Str)(apos:Pos)(e:Expr)(cpos:Pos):Prop where
 base:attributeBase o m X.env (eval o X.env)=eval o X.env
 few:((backTo cpos (starEach [e] X.env)).all (λx=>!x.1)&&(backToKw cpos (keywordEach [] X.env)).all (λx=>x.1.isSome)
 &&decide (([e]:List Expr).length+([]:List Keyword).length+(if([]:List Keyword).isEmpty then 0 else 1)<30))=true
 line:(apos.endLine==cpos.line)=true
 trees:backTo cpos (starEach [e] X.env)=[(false,eval e X.env)]
structure M2(X:Cx)(o:Expr)(m:Str)(apos:Pos)(e f:Expr)(cpos:Pos):Prop where
 base:attributeBase o m X.env (eval o X.env)=eval o X.env
 few:((backTo cpos (starEach [e,f] X.env)).all (λx=>!x.1)&&(backToKw cpos (keywordEach [] X.env)).all (λx=>x.1.isSome)
 &&decide (([e,f]:List Expr).length+([]:List Keyword).length+(if([]:List Keyword).isEmpty then 0 else 1)<30))=true
 line:(apos.endLine==cpos.line)=true
 trees:backTo cpos (starEach [e,f] X.env)=[(false,eval e X.env),(false,eval f X.env)]
section
variable {X:Cx}{pins:List (Addr×Obj)}{σ:St}{H:Hp}{s:Shared}{a:Addr}{y d:V}{u r:Value}{o:Option V}{A:Around}{E:Value->Shared->Prop}
end
section
variable {X:Cx}{o e f:Expr}{apos cpos:Pos}{td ty tx:TE}
end
section
variable {X:Cx}{pins:List (Addr×Obj)}{σ:St}{H:Hp}{s:Shared}{a:Addr}{kvs:List (Key×V)}{A:Around}{E:Value->Shared->Prop}
end
section
variable {X:Cx}{pins:List (Addr×Obj)}{σ:St}{H:Hp}{s:Shared}{a:Addr}{y:V}{u:Value}{A:Around}{E:Value->Shared->Prop}
end
end L2
namespace L2
open PySem PySem.Spec PyProof.Rows
section
variable {X:Cx}
end
section
variable {κ:Type} [DecidableEq κ]
end
end L2
set_option maxHeartbeats 4000000
namespace My
open PySem PySem.Spec L2
open PyProof.Rows hiding St
theorem Ap{CX:CXT}{P:Program}{w:World}{K:W.Frag}{mg:Str->Option Value}{base:Heap}{N:List Str}{qual:Str}{scope:Scope}{f:Addr}{cd:Value}{A:Around}{outer:List Env}{s:Shared}{H:Hp}{E:XK}:(ww CX P w K mg base N qual scope f cd A outer s H E).K=K:=rfl
section
variable {X:Cx}
theorem Qf{e:Expr}{t t':TE}(h:PE X e t)(i:∀σ H Q,t' σ H Q->t σ H Q):PE X e t':=λpins s σ H Q I q=>h pins s σ H Q I (i σ H Q q)
theorem Iu{e:Stmt}{t t':TS}(h:PS X e t)(i:∀D σ H,t' D σ H->t D σ H):PS X e t':=λpins s σ H D I q=>h pins s σ H D I (i D σ H q)
theorem oh{f:Value->Value->Sem Value}{r r':R2}(h:OpR X f r)(i:∀x y H Q,r' x y H Q->r x y H Q):OpR X f r':=λpins s σ H x y v u Q I rx ry q=>h pins s σ H x y v u Q I rx ry (i x y H Q q)
theorem Gx{r r':R2}(h:IxR X r)(i:∀x y H Q,r' x y H Q->r x y H Q):IxR X r':=λvalue slice pins s σ H x y v u Q I rx ry q hs=>h value slice pins s σ H x y v u Q I rx ry (i x y H Q q) hs
theorem Js{r r':V->Option Int->Option Int->Hp->VK->Prop}(h:SlR X r)(i:∀x lo hi H Q,r' x lo hi H Q->r x lo hi H Q):SlR X r':=λpins s σ H x v vl vu lo hi sl Q I rx hs pl pu q=>h pins s σ H x v vl vu lo hi sl Q I rx hs pl pu (i x lo hi H Q q)
end
def New(H:Hp)(o:HO)(Q:VK):Prop:=∀(p:Addr)(H':Hp),H p=none->Same H H'->H' p=some o->Q (.ref p) H'
theorem zf{H H1:Hp}{p:Addr}(h:Same H H1)(n:H p=none)(o:HO):Same H (upd H1 p o):=λb u q=>by
 rw[zj (wo q n)];exact h b u q
theorem we{H:Hp}{p:Addr}(n:H p=none)(o:HO):Same H (upd H p o):=zf (Same.refl H) n o
theorem New.at{H:Hp}{o:HO}{Q:VK}(h:New H o Q):∀p,H p=none->Q (.ref p) (upd H p o):=λp n=>h p _ n (we n o) zu
def Tups(H H':Hp):Prop:=(∀b xs,H b=some (.tup xs)->H' b=some (.tup xs))/\∀b o u,H b=some (.frz o u)->H' b=some (.frz o u)
theorem Tups.trans{H H1 H2:Hp}(a:Tups H H1)(b:Tups H1 H2):Tups H H2:=⟨λc xs h=>b.1 c xs (a.1 c xs h),λc o u h=>b.2 c o u (a.2 c o u h)⟩
theorem zw{H H':Hp}(a:Same H H'):Tups H H':=⟨λb xs h=>a b _ h,λb o u h=>a b _ h⟩
theorem Rq{H:Hp}{p:Addr}{o:HO}(n:(∀xs,H p≠some (.tup xs))/\∀ob u,H p≠some (.frz ob u)):Tups H (upd H p o) :=
 ⟨λb xs h=>by rw[zj (by rintro rfl;exact n.1 xs h)];exact h,λb ob u h=>by rw[zj (by rintro rfl;exact n.2 ob u h)];exact h⟩
theorem sj{H:Hp}{p:Addr}{xs:List V}{o:HO}(h:H p=some (.lst xs)):Tups H (upd H p o):=Rq ⟨λys z=>(by rw[h]at z;cases z),λob u z=>(by rw[h]at z;cases z)⟩
theorem Tups.sqT{K:W.Frag}{H H':Hp}{a:Addr}{xs:List V}(t:Tups H H')(h:SqT K H a xs):SqT K H' a xs:=by
 rcases h with(h|⟨o,h⟩)|h
 ·exact .inl (.inl (t.1 _ _ h))
 ·exact .inl (.inr ⟨o,t.2 _ _ _ h⟩)
 ·exact .inr h
mutual
def Has(K:W.Frag)(H:Hp):V->PyData->Prop
 |v,.none=>v = .non
 |v,.bool b=>v = .bl b
 |v,.int i=>v = .int i
 |v,.str x=>v = .str x
 |v,.tuple ds=>∃a xs,v = .ref a/\SqT K H a xs/\HasL K H xs ds
 |v,.list ds=>∃a xs,v = .ref a/\SqL K H a xs/\HasL K H xs ds
 |_,.dict _=>False
def HasL(K:W.Frag)(H:Hp):List V->List PyData->Prop
 |xs,[]=>xs=[]
 |xs,d::ds=>∃y ys,xs=y::ys/\Has K H y d/\HasL K H ys ds
end
def gv:St->Nat->Option V
 |[],_=>none
 |x::_,0=>x
 |_::r,n+1=>gv r n
def sv:St->Nat->V->St
 |[],_,_=>[]
 |_::r,0,v=>some v::r
 |x::r,n+1,v=>x::sv r n v
theorem Wj:∀{σ:St}{i:Nat}{v:V},gv σ i=some v->σ[i]?=some (some v)
 |[],_,_,h=>by simp[gv]at h
 |x::_,0,v,h=>by have h':x=some v:=h;simp[h']
 |_::r,n+1,v,h=>by
  have:=Wj (σ:=r) (i:=n) (v:=v) h;simpa using this
theorem X0:∀(σ:St)(i:Nat)(v:V),σ.set i (some v)=sv σ i v
 |[],_,_=>rfl
 |_::_,0,_=>rfl
 |x::r,n+1,v=>by
  show x::r.set n (some v)=x::sv r n v;rw[X0 r n v]
section
variable {X:Cx}
def mV(i:Nat):TE:=fun σ H Q=>match gv σ i with
 |some v=>Q v H
 |none=>False
theorem z8(i:Nat){x:Str}{pos:Pos}(hN:X.N[i]?=some x:=by rfl)(hv:Vis X.env.scope x:=by first|exact Or.inl rfl|exact Or.inr (Or.inl rfl)|exact Or.inr (Or.inr rfl))(hd:(x==("__debug__":Str))=false:=by decide)
  (pN:(x==("__classdict__":Str))=false:=by decide):PE X (.Name x pos) (mV i):=Qf (Ip hN hv hd pN) fun σ H Q q=>by
 unfold mV at q;split at q
 ·rename_i v e;exact⟨v,Wj e,q⟩
 ·exact q.elim
def Dk(i:Nat)(te:TE):TS:=λD σ H=>te σ H λx H1=>D.nx (sv σ i x) H1
theorem zn(i:Nat){x:Str}{e:Expr}{te:TE}{pos jW:Pos}(hN:X.N.Nodup)(he:PE X e te)(hi:X.N[i]?=some x:=by rfl)(hx:Loc X.env.scope x:=by first|exact Or.inl rfl|exact Or.inr rfl)
  (hs:swapsWith e (some (.Name x jW)) pos.line X.env=pure false:=by rfl) (hf:X.fn x=true\/X.env.scope.names.lookup x=some .local:=by first|exact .inl rfl|exact .inr rfl):PS X (.Assign [.Name x jW] e pos) (Dk i te) :=
 Iu (Iv (i:=i) hN hi hx he hs hf) λD σ H q=>by
  refine(?_:Np te (bp i) D σ H);have e:(λx H1=>D.nx (sv σ i x) H1)=λx H1=>bp i x σ H1 D.nx:=by
   funext x H1
   show D.nx (sv σ i x) H1=D.nx (σ.set i (some x)) H1;rw[X0]
  show te σ H λx H1=>bp i x σ H1 D.nx;rw[<-e];exact q
def mG(i:Nat):TG:=λv σ H Q=>Q (sv σ i v) H
theorem ve(i:Nat){x:Str}{pos:Pos}(hN:X.N.Nodup)(hi:X.N[i]?=some x:=by rfl)(hx:Loc X.env.scope x:=by first|exact Or.inl rfl|exact Or.inr rfl)
  (hf:X.fn x=true\/X.env.scope.names.lookup x=some .local:=by first|exact .inl rfl|exact .inr rfl):PG X (.Name x pos) (mG i):=by
 have h:=Mr (pos:=pos) (X:=X) hN hi hx hf;have e:mG i=bp i:=by
  funext v σ H Q
  show Q (sv σ i v) H=Q (σ.set i (some v)) H;rw[X0]
 rw[e];exact h
def P3(k:Bool->Hp->Prop):V->Hp->Prop:=λx H=>match x with
 | .bl c=>k c H
 |_=>False
theorem Mh{k:Bool->Hp->Prop}{c:Bool}{H:Hp}:P3 k (.bl c) H=k c H:=rfl
def P4(k:Int->Hp->Prop):V->Hp->Prop:=λx H=>match x with
 | .int c=>k c H
 |_=>False
theorem P5{k:Int->Hp->Prop}{c:Int}{H:Hp}:P4 k (.int c) H=k c H:=rfl
def Y7(k:Addr->Hp->Prop):V->Hp->Prop:=λx H=>match x with
 | .ref c=>k c H
 |_=>False
theorem P6{k:Addr->Hp->Prop}{c:Addr}{H:Hp}:Y7 k (.ref c) H=k c H:=rfl
def on1(k:V->Hp->Prop):List V->Hp->Prop:=λx H=>match x with
 |[c]=>k c H
 |_=>False
theorem Ie{k:V->Hp->Prop}{c:V}{H:Hp}:on1 k [c] H=k c H:=rfl
def Pa(K:W.Frag):R2:=λx y H Q=>match x,y with
 | .int i,.int j=>Q (.int (i+j)) H
 | .str a,.str b=>a.length+b.length<=sizeLine/\Q (.str (a++b)) H
 | .ref a,.ref b=>(∃xs ys,H a=some (.lst xs)/\H b=some (.lst ys)/\xs.length+ys.length<=sizeLine/\New H (.lst (xs++ys)) Q) \/
   ∃xs ys,SqT K H a xs/\SqT K H b ys/\xs.length+ys.length<=sizeLine/\∀(p:Addr)(H':Hp),Same H H'->SqT K H' p (xs++ys)->Q (.ref p) H'
 |_,_=>False
theorem Of{prog:Program}{w:World}{A:Around}{E:Value->Shared->Prop}{s:Shared}{t b:Addr}{ws:List Value}{Q:Value->Shared->Prop}(ht:IsTup s.heap t #[])(hb:IsTup s.heap b ws.toArray)(h:Q (.ref b) s):
  wpAny (model prog w) A (binaryOp .Add (.ref t) (.ref b)) Q E s:=by
 obtain⟨⟨cls,dd,data,sl⟩,ho,hc,n,hd⟩:=id ht;obtain⟨⟨cls2,dd2,data2,CJ⟩,HG,BV,n2,HP⟩:=id hb;simp only at hc hd BV HP;subst hc hd BV HP;exact concat_meets ⟨_,ho,rfl⟩ ⟨_,HG,rfl⟩ noFill_tuple_add seq_tuple_add tQ tS (uB _ _)
   (tuple_addW0 t b #[] ws.toArray n n2 dd dd2 sl CJ (by simp)) ⟨ho,HG,h⟩
theorem P8:OpR X (binaryOp .Add) (λx y H Q=>∃a b xs ys,x = .ref a/\y = .ref b/\SqT X.K H a xs/\SqT X.K H b ys/\xs.length+ys.length<=sizeLine/\∀(p:Addr)(H':Hp),Same H H'->SqT X.K H' p (xs++ys)->Q (.ref p) H'):=by
 intro pins s σ H x y v u Q I rx ry h;obtain⟨a,b,xs,ys,rfl,rfl,ha,hb,hz,q⟩:=h
 by_cases e:xs=[]
 ·subst e;cases rx;cases ry;obtain⟨aJ,r1,p1,_⟩:=I.tuple ha;obtain⟨kF,r2,p2,_⟩:=I.tuple hb;cases r1;exact Of p1 p2 ⟨.ref b,H,I,rfl,q b H (Same.refl H) hb⟩
 ·refine Mn pins s σ H _ _ v u Q I rx ry ⟨a,b,xs,ys,rfl,rfl,ha,hb,e,hz,λz=>?_,λ_ p n=>?_⟩
  ·subst z;exact q a H (Same.refl H) (by rw[List.append_nil];exact ha)
  ·exact q p _ (we n _) (SqT.of zu)
theorem z5:OpR X (binaryOp .Add) (Pa X.K):=by
 intro pins s σ H x y v u Q I rx ry h;cases x with
 |int i=>cases y with
  |int j=>exact Ii pins s σ H _ _ v u Q I rx ry ⟨i,j,rfl,rfl,h⟩
  |_=>exact(show False from h).elim
 |str i=>cases y with
  |str j=>exact Xl pins s σ H _ _ v u Q I rx ry ⟨i,j,rfl,rfl,h.1,h.2⟩
  |_=>exact(show False from h).elim
 |ref a=>cases y with
  |ref b =>
   have h':(∃xs ys,H a=some (.lst xs)/\H b=some (.lst ys)/\xs.length+ys.length<=sizeLine/\New H (.lst (xs++ys)) Q) \/
    ∃xs ys,SqT X.K H a xs/\SqT X.K H b ys/\xs.length+ys.length<=sizeLine/\∀(p:Addr)(H':Hp),Same H H'->SqT X.K H' p (xs++ys)->Q (.ref p) H':=h
   rcases h' with⟨xs,ys,ha,hb,hz,q⟩|⟨xs,ys,ha,hb,hz,q⟩
   ·exact Ij pins s σ H _ _ v u Q I rx ry ⟨a,b,xs,ys,rfl,rfl,ha,hb,hz,q.at⟩
   ·exact P8 pins s σ H _ _ v u Q I rx ry ⟨a,b,xs,ys,rfl,rfl,ha,hb,hz,q⟩
  |_=>exact(show False from h).elim
 |_=>exact(show False from by cases y<;>exact h).elim
def mII(C:Int->Int->Prop)(g:Int->Int->V):R2:=λx y H Q=>match x,y with
 | .int i,.int j=>C i j/\Q (g i j) H
 |_,_=>False
def Lr(g:Int->Int->V):R2:=λx y H Q=>match x,y with
 | .int i,.int j=>Q (g i j) H
 |_,_=>False
theorem Wz{C:Int->Int->Prop}{g:Int->Int->V}(x y:V)(H:Hp)(Q:VK)(h:mII C g x y H Q):rI C g x y H Q:=by
 cases x with
 |int i=>cases y with
  |int j=>exact⟨i,j,rfl,rfl,h.1,h.2⟩
  |_=>exact(show False from h).elim
 |_=>exact(show False from by cases y<;>exact h).elim
theorem U2{g:Int->Int->V}(x y:V)(H:Hp)(Q:VK)(h:Lr g x y H Q):rI0 g x y H Q:=by
 cases x with
 |int i=>cases y with
  |int j=>exact⟨i,j,rfl,rfl,h⟩
  |_=>exact(show False from h).elim
 |_=>exact(show False from by cases y<;>exact h).elim
theorem r9:OpR X (binaryOp .Mult) (mII CMul λi j=>.int (i*j)):=oh Il Wz
theorem vk:OpR X (binaryOp .Mod) (mII (λ_ j=>0<j) λi j=>.int (i % j)):=oh Ik Wz
theorem Pe:OpR X (binaryOp .FloorDiv) (mII Ca λi j=>.int (i / j)):=oh Mo Wz
theorem S6:OpR X (compareOp .Lt) (Lr λi j=>.bl (decide (i<j))):=oh Eg U2
theorem W2:OpR X (compareOp .Gt) (Lr λi j=>.bl (decide (j<i))):=oh Ef U2
def mEq(g:Bool->Bool):R2:=λx y H Q=>match x,y with
 | .int i,.int j=>Q (.bl (g (decide (i=j)))) H
 | .bl i,.bl j=>Q (.bl (g (decide (i=j)))) H
 | .str i,.str j=>Q (.bl (g (decide (i=j)))) H
 | .non,.non=>Q (.bl (g true)) H
 | .non,.bl _=>Q (.bl (g false)) H
 | .bl _,.non=>Q (.bl (g false)) H
 | .non,.int _=>Q (.bl (g false)) H
 | .int _,.non=>Q (.bl (g false)) H
 |_,_=>False
theorem Cq(i j:Int):decide (V.int i=V.int j)=decide (i=j):=by simp
theorem Aq(i j:Bool):decide (V.bl i=V.bl j)=decide (i=j):=by simp
theorem Cs(i j:Str):decide (V.str i=V.str j)=decide (i=j):=by simp
theorem Kn{g:Bool->Bool}{x y:V}{H:Hp}{Q:VK}(h:mEq g x y H Q):Jm x y=true/\Q (.bl (g (decide (x=y)))) H:=by
 cases x with
 |int i=>cases y with
  |int j=>exact⟨rfl,by rw[Cq];exact h⟩
  |non=>exact⟨rfl,by rw[yV (by intro z;cases z)];exact h⟩
  |_=>exact(show False from h).elim
 |bl i=>cases y with
  |bl j=>exact⟨rfl,by rw[Aq];exact h⟩
  |non=>exact⟨rfl,by rw[yV (by intro z;cases z)];exact h⟩
  |_=>exact(show False from h).elim
 |str i=>cases y with
  |str j=>exact⟨rfl,by rw[Cs];exact h⟩
  |_=>exact(show False from h).elim
 |non=>cases y with
  |non=>exact⟨rfl,by rw[zI rfl];exact h⟩
  |bl j=>exact⟨rfl,by rw[yV (by intro z;cases z)];exact h⟩
  |int j=>exact⟨rfl,by rw[yV (by intro z;cases z)];exact h⟩
  |_=>exact(show False from h).elim
 |_=>exact(show False from by cases y<;>exact h).elim
mutual
theorem wk{pins:List (Addr×Obj)}{σ:St}{H:Hp}{s:Shared}(I:Inv X pins σ H s):∀(d:PyData)(v:V)(u:Value),Has X.K H v d->RelV v u->∃as,Reads s.heap u d as
 | .none,v,u,h,r=>by
  have h':v = .non:=by simpa[Has]using h
  subst h';cases r;exact⟨_,.none⟩
 | .bool b,v,u,h,r=>by
  have h':v = .bl b:=by simpa[Has]using h
  subst h';cases r;exact⟨_,.bool b⟩
 | .int i,v,u,h,r=>by
  have h':v = .int i:=by simpa[Has]using h
  subst h';obtain⟨t,rfl⟩:=r;exact⟨_,.int i t⟩
 | .str x,v,u,h,r=>by
  have h':v = .str x:=by simpa[Has]using h
  subst h';obtain⟨t,rfl⟩:=r;exact⟨_,.str x t⟩
 | .tuple ds,v,u,h,r=>by
  have h':∃a xs,v = .ref a/\SqT X.K H a xs/\HasL X.K H xs ds:=by simpa[Has]using h
  obtain⟨a,xs,rfl,hq,hl⟩:=h';cases r;obtain⟨aJ,rv,⟨o,e,c,n,dd⟩,_⟩:=I.tuple hq;obtain⟨as,ra⟩:=hasL_reads I ds xs aJ hl rv;exact⟨_,.tuple e c dd ra⟩
 | .list ds,v,u,h,r=>by
  have h':∃a xs,v = .ref a/\SqL X.K H a xs/\HasL X.K H xs ds:=by simpa[Has]using h
  obtain⟨a,xs,rfl,hq,hl⟩:=h';cases r;obtain⟨aJ,rv,pl,_⟩:=I.list hq;obtain⟨o,e,c,n,dd⟩:=pl.isList;obtain⟨as,ra⟩:=hasL_reads I ds xs aJ hl rv;exact⟨_,.list e c dd ra⟩
 | .dict _,v,u,h,r=>by
  have h':False:=by simpa[Has]using h
  exact h'.elim
theorem hasL_reads{pins:List (Addr×Obj)}{σ:St}{H:Hp}{s:Shared}(I:Inv X pins σ H s):∀(ds:List PyData)(xs:List V)(us:List Value),HasL X.K H xs ds->Vals xs us->∃as,ReadsAll s.heap us ds as
 |[],xs,us,h,r=>by
  have h':xs=[]:=by simpa[HasL]using h
  subst h';cases r;exact⟨_,.nil⟩
 |d::ds,xs,us,h,r=>by
  have h':∃y ys,xs=y::ys/\Has X.K H y d/\HasL X.K H ys ds:=by simpa[HasL]using h
  obtain⟨y,ys,rfl,h1,h2⟩:=h';cases r with
  |cons r1 r2 =>
   obtain⟨as,ra⟩:=wk I d y _ h1 r1;obtain⟨bs,rb⟩:=hasL_reads I ds ys _ h2 r2;exact⟨_,.cons ra rb⟩
end
def j6(K:W.Frag)(g:Bool->Bool):R2:=λx y H Q=>match x,y with
 | .ref a,.ref b=>∃da db,Has K H (.ref a) da/\Has K H (.ref b) db/\SeqAt.shaped da=true/\SeqAt.shaped db=true/\Q (.bl (g (PyData.eqv da db))) H
 |x,y=>mEq g x y H Q
theorem wb(hu:X.A.units+64<cLine):OpR X (compareOp .Eq) (j6 X.K id):=by
 intro pins s σ H x y v u Q I rx ry h;have sc:mEq id x y H Q->wpAny (model X.prog X.w) X.A (compareOp .Eq v u) (EP X pins σ Q) X.xe s:=λh=>Ee pins s σ H x y v u Q I rx ry (Kn h);cases x with
 |ref a=>cases y with
  |ref b =>
   obtain⟨da,db,h1,h2,s1,s2,q⟩:=(show∃da db,Has X.K H (.ref a) da/\Has X.K H (.ref b) db/\SeqAt.shaped da=true/\SeqAt.shaped db=true/\Q (.bl (PyData.eqv da db)) H from h)
   obtain⟨as,ra⟩:=wk I da _ _ h1 rx;obtain⟨bs,rb⟩:=wk I db _ _ h2 ry;exact eq_dataH ra rb s1 s2 hu ⟨.bl _,H,I,rfl,q⟩
  |_=>exact sc h
 |_=>exact sc (by cases y<;>exact h)
theorem Lx(hu:X.A.units+64<cLine):OpR X (compareOp .NotEq) (j6 X.K not):=by
 intro pins s σ H x y v u Q I rx ry h;have sc:mEq not x y H Q->wpAny (model X.prog X.w) X.A (compareOp .NotEq v u) (EP X pins σ Q) X.xe s:=λh=>Eh pins s σ H x y v u Q I rx ry (Kn h);cases x with
 |ref a=>cases y with
  |ref b =>
   obtain⟨da,db,h1,h2,s1,s2,q⟩:=(show∃da db,Has X.K H (.ref a) da/\Has X.K H (.ref b) db/\SeqAt.shaped da=true/\SeqAt.shaped db=true/\Q (.bl (!PyData.eqv da db)) H from h)
   obtain⟨as,ra⟩:=wk I da _ _ h1 rx;obtain⟨bs,rb⟩:=wk I db _ _ h2 ry;exact ne_dataH ra rb s1 s2 hu ⟨.bl _,H,I,rfl,q⟩
  |_=>exact sc h
 |_=>exact sc (by cases y<;>exact h)
def mLe:R2:=λx y H Q=>match x,y with
 | .int i,.int j=>Q (.bl (decide (i<=j))) H
 | .bl i,.bl j=>Q (.bl (!i||j)) H
 |_,_=>False
def mIn(K:W.Frag)(neg:Bool):R2:=λx y H Q=>match y with
 | .ref p=>∃xs,(SqL K H p xs\/SqT K H p xs)/\vg x=true/\xs.all vg=true/\Q (.bl (if neg then !inV x xs else inV x xs)) H
 |_=>False
theorem Dd{K:W.Frag}{neg:Bool}(x y:V)(H:Hp)(Q:VK)(h:mIn K neg x y H Q):rIn K neg x y H Q:=by
 cases y with
 |ref p =>
  obtain⟨xs,q⟩:=(show∃xs,(SqL K H p xs\/SqT K H p xs)/\vg x=true/\xs.all vg=true/\Q (.bl (if neg then !inV x xs else inV x xs)) H from h)
  exact⟨p,xs,rfl,q⟩
 |_=>exact(show False from h).elim
theorem Hs:OpR X (compareOp .In) (mIn X.K false):=oh To Dd
def mIx(K:W.Frag):R2:=λx y H Q=>match x,y with
 | .str z,.int i=>z.length<=sizeLine/\∃c,atI z.cps.toList i=some c/\Q (.str ⟨#[c]⟩) H
 | .ref p,.int i=>∃xs v,(SqL K H p xs\/SqT K H p xs)/\atI xs i=some v/\Q v H
 |_,_=>False
theorem Du:IxR X (mIx X.K):=Gx Gz λx y H Q h=>by
 cases x with
 |str z=>cases y with
  |int i=>exact .inr (.inr ⟨z,i,h.2.choose,rfl,rfl,h.1,h.2.choose_spec.1,h.2.choose_spec.2⟩)
  |_=>exact(show False from h).elim
 |ref p=>cases y with
  |int i =>
   obtain⟨xs,v,hs,e,q⟩:=(show∃xs v,(SqL X.K H p xs\/SqT X.K H p xs)/\atI xs i=some v/\Q v H from h)
   rcases hs with hs|hs
   ·exact .inl ⟨p,xs,i,v,rfl,rfl,hs,e,q⟩
   ·exact .inr (.inl ⟨p,xs,i,v,rfl,rfl,hs,e,q⟩)
  |_=>exact(show False from h).elim
 |_=>exact(show False from by cases y<;>exact h).elim
theorem vy{a b:Expr}{ta tb:TE}{pos:Pos}(ha:PE X a ta)(hb:PE X b tb)(hs:Uk b):PE X (.Subscript a b pos) (tOp (mIx X.K) ta tb):=Ei Du ha hb hs
theorem o5{prog:Program}{w:World}{A:Around}{E:Value->Shared->Prop}{s:Shared}{t sl:Addr}{aB:Array Value}{vl vu:Value}{lo hi:Option Int}{Q:Value->Shared->Prop}(ht:IsTup s.heap t aB)(hs:s.heap.IsSliceOf sl vl vu .none)(pl:IsPart vl lo)(pu:IsPart vu hi)
  (hw:HT.sIx aB.size 0 lo=0/\HT.sIx aB.size aB.size hi=aB.size) (h:Q (.ref t) s):wpAny (model prog w) A (getItem (.ref t) (.ref sl)) Q E s:=by
 obtain⟨os,HE,KD,U'⟩:=id hs;have VE:s.TypeIs (.ref sl) "slice":=⟨os,HE,KD⟩
 unfold getItem
 try with_reducible refine xD ?_
 first|refine zZ (zW ?_)|skip
 refine zZ (wpAny_sequenceKey ht.typeIs (by decide) ?_);refine zZ (xM (name:=Str.ofString "__getitem__") ht.typeIs xS
  (xX xS ht.typeIs entry_tuple_getitem ?_ (args_tuple_getitem _ _)))
 show wpAny _ _ (Builtin.Tuple.tupleItemsOf (.ref t) >>= _) _ _ s;refine zZ (tupleItemsOf_ ht ?_);refine zZ (uG VE ?_);rw[zG (by decide)];refine zZ (HT.sliceApplied_gen hs pl pu ?_);have GU:(((HT.sIx aB.size 0 lo:Nat):Int)==0&&(1:Int)==1&&(HT.sIx aB.size aB.size hi-HT.sIx aB.size 0 lo)==aB.size)=true:=by
  rw[hw.1,hw.2];simp
 show wpAny _ _ (if(((HT.sIx aB.size 0 lo:Nat):Int)==0&&(1:Int)==1&&(HT.sIx aB.size aB.size hi-HT.sIx aB.size 0 lo)==aB.size)=true then _ else _) _ _ s;rw[zG GU];have hex:∀{A':Around}{Q':Bool->Shared->Prop}{E':Value->Shared->Prop},Q' true s->wpAny (model prog w) A' (Builtin.Tuple.tupleIsExact (.ref t)) Q' E' s:=λq=>by
  unfold Builtin.Tuple.tupleIsExact;exact zZ (uG ht.typeIs (zW q))
 refine zZ (hex ?_);rw[zG rfl];exact zZ (tB (zW ⟨_,rfl,zW h⟩))
theorem sl_tupA:SlR X (λx lo hi H Q=>∃a xs,x = .ref a/\SqT X.K H a xs/\∀(p:Addr)(H':Hp),Same H H'->SqT X.K H' p (rm xs lo hi)->Q (.ref p) H'):=by
 intro pins s σ H x v vl vu lo hi sl Q I rx hs pl pu h;obtain⟨a,xs,rfl,hx,q⟩:=h
 by_cases hw:HT.sIx xs.length 0 lo=0/\HT.sIx xs.length xs.length hi=xs.length
 ·cases rx;obtain⟨aJ,r,ht,hz⟩:=I.tuple hx;have aZ:aJ.toArray.size=xs.length:=by rw[zN];exact r.length.symm
  refine⟨"tuple",_,xS.lookup,ht.typeIs,?_⟩;refine o5 ht hs pl pu (by rw[aZ];exact hw) ⟨.ref a,H,I,rfl,q a H (Same.refl H) ?_⟩;have e:rm xs lo hi=xs:=by
   unfold rm;rw[hw.1,hw.2];simp
  rw[e];exact hx
 ·exact Ju pins s σ H _ v vl vu lo hi sl Q I rx hs pl pu ⟨a,xs,rfl,hx,hw,λp n=>q p _ (we n _) (SqT.of zu)⟩
theorem U7{v:Value}{o:Option Int}(p:IsPart v o):∃l:Option (Int×Tok),v=partValue l/\l.map (·.1)=o:=by
 cases p with
 |none=>exact⟨none,rfl,rfl⟩
 |int i t=>exact⟨some (i,t),rfl,rfl⟩
theorem sl_strA:SlR X (λx lo hi H Q=>∃z,x = .str z/\z.length<=sizeLine/\Q (.str (Txt.slice z lo hi)) H):=by
 intro pins s σ H x v vl vu lo hi sl Q I rx hs pl pu h;obtain⟨z,rfl,hz,q⟩:=h;obtain⟨t,rfl⟩:=rx;obtain⟨l,rfl,rfl⟩:=U7 pl;obtain⟨u,rfl,rfl⟩:=U7 pu;refine⟨"str",_,F.slot_str_getitem.lookup,uO _ _ _,?_⟩;refine wpAny_getItem_str_slice (l:=l) (u:=u) (st:=none) hs rfl (post_val_or_str ⟨yQ (Txt.slice_le z _ _) hz,λt' k=>⟨.str (Txt.slice z (l.map (·.1)) (u.map (·.1))),H,I.tok k,⟨t',rfl⟩,q⟩⟩)
def mSl(K:W.Frag):V->Option Int->Option Int->Hp->VK->Prop:=λx lo hi H Q=>match x with
 | .str z=>z.length<=sizeLine/\Q (.str (Txt.slice z lo hi)) H
 | .ref a=>(∃xs,SqL K H a xs/\New H (.lst (rm xs lo hi)) Q)\/∃xs,SqT K H a xs/\∀(p:Addr)(H':Hp),Same H H'->SqT K H' p (rm xs lo hi)->Q (.ref p) H'
 |_=>False
theorem Dy:SlR X (mSl X.K):=Js (sl_strA.or (sl_tupA.or Nd)) λx lo hi H Q h=>by
 cases x with
 |str z=>exact .inl ⟨z,rfl,h.1,h.2⟩
 |ref a =>
  have h':(∃xs,SqL X.K H a xs/\New H (.lst (rm xs lo hi)) Q)\/∃xs,SqT X.K H a xs/\∀(p:Addr)(H':Hp),Same H H'->SqT X.K H' p (rm xs lo hi)->Q (.ref p) H':=h;rcases h' with⟨xs,hx,q⟩|⟨xs,hx,q⟩
  ·exact .inr (.inr ⟨a,xs,rfl,hx,q.at⟩)
  ·exact .inr (.inl ⟨a,xs,rfl,hx,q⟩)
 |_=>exact(show False from h).elim
def Kq(t:TE):TO:=fun σ H Q=>t σ H (P4 λi H1=>Q (some i) H1)
theorem uo{e:Expr}{te:TE}(h:PE X e te):PO X (some e) (Kq te):=by
 intro pins s σ H Q I hw;rw[evalPart_some];refine thn (h pins s σ H _ I hw) λu s1 ⟨x,H1,I1,r1,q1⟩=>?_;cases x with
 |int i =>
  obtain⟨t,rfl⟩:=r1;exact⟨some i,H1,I1,.int i t,q1⟩
 |_=>exact(show False from q1).elim
theorem vz{e:Expr}{te:TE}{lo hi:Option Expr}{tl th:TO}{pos p2:Pos}(he:PE X e te)(hl:PO X lo tl)(hu:PO X hi th):PE X (.Subscript e (.Slice lo hi none p2) pos) (tSl (mSl X.K) te tl th):=Qh Dy he hl hu
def Dp(t:TA):TE:=fun σ H Q=>t σ H λxs H1=>xs.length<=sizeLine/\New H1 (.tup xs) Q
def Dg(t:TA):TE:=fun σ H Q=>t σ H λxs H1=>xs.length<=sizeLine/\New H1 (.lst xs) Q
theorem yy{es:List Expr}{t:TA}{pos:Pos}{x1}(h:PA X es t):PE X (.Tuple es x1 pos) (Dp t):=by
 intro pins s σ H Q I hq;refine wpAny_Tuple_spliced (thn (h pos pins s σ H _ I hq) λus s1 ⟨xs,H1,I1,r,z,q⟩=>⟨by rw[<-r.length];exact z,?_⟩);have hf:H1 s1.heap.objs.size=none:=I1.hok.fresh (zT _);refine⟨.ref s1.heap.objs.size,upd H1 s1.heap.objs.size (.tup xs),I1.laid (t':=s1.toks) (λb u e=>zY _ e) (zT _) ?_,rfl,q.at _ hf⟩;exact⟨z,us,r,⟨_,zS _ rfl,rfl,_,rfl⟩⟩
theorem zd{es:List Expr}{t:TA}{pos:Pos}(h:PA X es t):PE X (.List es pos) (Dg t):=by
 intro pins s σ H Q I hq;refine wpAny_List_spliced (thn (h pos pins s σ H _ I hq) λus s1 ⟨xs,H1,I1,r,z,q⟩=>⟨by rw[<-r.length];exact z,?_⟩);have hf:H1 s1.heap.objs.size=none:=I1.hok.fresh (zT _);refine⟨.ref s1.heap.objs.size,upd H1 s1.heap.objs.size (.lst xs),I1.laid (t':=s1.toks) (λb u e=>zY _ e) (zT _) ?_,rfl,q.at _ hf⟩;exact⟨z,us,0,r,zS _ rfl⟩
def mB(t:TE):TT:=fun σ H Q=>t σ H (P3 Q)
theorem zc{a b:Expr}{op:CmpOp}{r:R2}{ta tb:TE}{pos:Pos}(ho:OpR X (compareOp op) r)(ha:PE X a ta)(hb:PE X b tb)(hm:behindInMarks op b=false):PT X (.Compare a [op] [b] pos) (mB (tOp r ta tb)):=by
 intro pins s σ H Q I h;refine wpAny_isTrue_Compare1 (thn (ha pins s σ H _ I h) λv s1 ⟨x,H1,I1,r1,q1⟩=>thn (hb pins s1 σ H1 _ I1 q1) λu s2 ⟨y,H2,I2,r2,q2⟩ =>
  thn (ho pins s2 σ H2 x y v u _ I2 r1 r2 q2) λc s3 ⟨z,H3,I3,r3,q3⟩=>?_) hm
 cases z with
 |bl k =>
  cases r3;exact wJ ⟨H3,I3,q3⟩
 |_=>exact(show False from q3).elim
theorem xw{e:Expr}{t:TE}(h:PE X e t)(he:∀sC,isTrue e X.env sC=(do let v <-sC;standAt e.pos;holding [v] (truthy v)):=by intro _;rfl):PT X e (mB t):=by
 intro pins s σ H Q I hw;refine isTrue_plain (thn (h pins s σ H _ I hw) λv s1 ⟨x,H1,I1,r1,q1⟩=>?_) (he _);cases x with
 |bl k =>
  cases r1;exact wJ ⟨H1,I1,q1⟩
 |_=>exact(show False from q1).elim
def Km(ta tb:TE):TE:=fun σ H Q=>ta σ H (P3 λc H1=>if c=true then tb σ H1 Q else Q (.bl false) H1)
def Dj(ta tb:TE):TE:=fun σ H Q=>ta σ H (P3 λc H1=>if c=true then Q (.bl true) H1 else tb σ H1 Q)
def Kp(ta:TE):TE:=fun σ H Q=>ta σ H (P3 λc H1=>Q (.bl (!c)) H1)
theorem ce{a b:Expr}{rest:List Expr}{ta tb:TE}{pos:Pos}(ha:PE X a ta)(hb:PE X (.BoolOp .And (b::rest) pos) tb):PE X (.BoolOp .And (a::b::rest) pos) (Km ta tb):=by
 intro pins s σ H Q I h;refine BoolOp_and (thn (ha pins s σ H _ I h) λv s1 ⟨x,H1,I1,r1,q1⟩=>?_);cases x with
 |bl c =>
  cases r1;refine wJ ?_;cases c with
  |true=>exact hb pins s1 σ H1 Q I1 q1
  |false=>exact⟨.bl false,H1,I1,rfl,q1⟩
 |_=>exact(show False from q1).elim
theorem Dx{a b:Expr}{rest:List Expr}{ta tb:TE}{pos:Pos}(ha:PE X a ta)(hb:PE X (.BoolOp .Or (b::rest) pos) tb):PE X (.BoolOp .Or (a::b::rest) pos) (Dj ta tb):=by
 intro pins s σ H Q I h;refine BoolOp_or (thn (ha pins s σ H _ I h) λv s1 ⟨x,H1,I1,r1,q1⟩=>?_);cases x with
 |bl c =>
  cases r1;refine wJ ?_;cases c with
  |false=>exact hb pins s1 σ H1 Q I1 q1
  |true=>exact⟨.bl true,H1,I1,rfl,q1⟩
 |_=>exact(show False from q1).elim
theorem Pf{a:Expr}{ta:TE}{pos:Pos}(ha:PE X a ta):PE X (.UnaryOp .Not a pos) (Kp ta):=by
 intro pins s σ H Q I h;refine UnaryOp_ (thn (ha pins s σ H _ I h) λv s1 ⟨x,H1,I1,r1,q1⟩=>?_);cases x with
 |bl c =>
  cases r1;exact not_of (wJ ⟨.bl (!c),H1,I1,rfl,q1⟩)
 |_=>exact(show False from q1).elim
def Hm(K:W.Frag):List V->Hp->VK->Prop:=λxs H Q=>match xs with
 |[.str z]=>z.length<=sizeLine/\Q (.int z.length) H
 |[.ref p]=>∃ys,(SqL K H p ys\/SqT K H p ys)/\Q (.int ys.length) H
 |_=>False
theorem ya:vf X (.builtin "len") (Hm X.K):=by
 intro pins s σ H xs us Q I r h
 match xs,h with
 |[.str z],h=>exact Zz pins s σ H _ us Q I r ⟨z,rfl,h.1,h.2⟩
 |[.ref p],h =>
  obtain⟨ys,hs,q⟩:=(show∃ys,(SqL X.K H p ys\/SqT X.K H p ys)/\Q (.int ys.length) H from h)
  exact Zy pins s σ H _ us Q I r ⟨p,ys,rfl,hs,q⟩
theorem Mm{C:Addr->Prop}{xs:List V}(h:match xs with|[.ref p]=>C p|_=>False):∃p,xs=[.ref p]/\C p:=by
 rcases xs with _|⟨x,_|⟨_,_⟩⟩
 ·exact(show False from h).elim
 ·cases x with
  |ref p=>exact⟨p,rfl,h⟩
  |_=>exact(show False from h).elim
 ·exact(show False from by cases x<;>exact h).elim
def Ls(K:W.Frag):List V->Hp->VK->Prop:=λxs H Q=>match xs with
 |[.ref p]=>∃ys,(SqL K H p ys\/SqT K H p ys)/\New H (.lst ys) Q
 |_=>False
def Pb(K:W.Frag):List V->Hp->VK->Prop:=λxs H Q=>match xs with
 |[.ref p]=>∃ys,(SqL K H p ys\/SqT K H p ys)/\∀(r:Addr)(H':Hp),Same H H'->SqT K H' r ys->Q (.ref r) H'
 |_=>False
theorem uy:vf X (.type "tuple") (Pb X.K):=by
 intro pins s σ H xs us Q I r h;obtain⟨p,rfl,ys,hs,q⟩:=Mm (C:=λp=>∃ys,(SqL X.K H p ys\/SqT X.K H p ys)/\∀(r:Addr)(H':Hp),Same H H'->SqT X.K H' r ys->Q (.ref r) H') h;rcases hs with hs|hs
 ·exact qh pins s σ H _ us Q I r ⟨p,ys,rfl,.inl ⟨hs,λl n=>q l _ (we n _) (SqT.of zu)⟩⟩
 ·exact qh pins s σ H _ us Q I r ⟨p,ys,rfl,.inr ⟨hs,q p H (Same.refl H) hs⟩⟩
inductive TyX (K:W.Frag) (H:Hp):V->Value->Prop where
 |of {x:V}{t:Value} (h:TyOf K H x t):TyX K H x t
 |tup {a:Addr}{xs:List V} (h:SqT K H a xs):TyX K H (.ref a) (.type "tuple")
 |lst {a:Addr}{xs:List V} (h:SqL K H a xs):TyX K H (.ref a) (.type "list")
def De(K:W.Frag):List V->Hp->VK->Prop:=λxs H Q=>match xs with
 |[x,.ty c]=>∃t b,TyX K H x t/\W.kitOne K t (.type c)=some b/\Q (.bl b) H
 |_=>False
theorem Gh{C:V->String->Prop}{xs:List V}(h:match xs with|[x,.ty c]=>C x c|_=>False):∃x c,xs=[x,.ty c]/\C x c:=by
 rcases xs with _|⟨x,_|⟨y,_|⟨_,_⟩⟩⟩
 ·exact(show False from h).elim
 ·exact(show False from h).elim
 ·cases y with
  |ty c=>exact⟨x,c,rfl,h⟩
  |_=>exact(show False from h).elim
 ·exact(show False from by cases y<;>exact h).elim
theorem ul:vf X (.builtin "isinstance") (De X.K):=by
 intro pins s σ H xs us Q I r h;obtain⟨x,c,rfl,t,b,ty,e,q⟩:=Gh (C:=λx c=>∃t b,TyX X.K H x t/\W.kitOne X.K t (.type c)=some b/\Q (.bl b) H) h;obtain⟨u,w',rfl,r1,r2⟩:=lj r;cases r2;cases ty with
 |of ty=>exact So I r1 ty e λtk=>⟨.bl b,H,I.tok tk,rfl,q⟩
 |tup hq =>
  cases r1;obtain⟨aJ,_,⟨o,h1,h2,_⟩,_⟩:=I.tuple hq;exact xN W.kitx_tuple I.kIn ⟨o,h1,h2⟩ e (λz=>nomatch z) λtk=>⟨.bl b,H,I.tok tk,rfl,q⟩
 |lst hq =>
  cases r1;obtain⟨aJ,_,pl,_⟩:=I.list hq;obtain⟨o,h1,h2,_⟩:=pl.isList;exact xN W.kitx_list I.kIn ⟨o,h1,h2⟩ e (λz=>nomatch z) λtk=>⟨.bl b,H,I.tok tk,rfl,q⟩
def C9:V->List V->Hp->VK->Prop:=λx vs H Q=>match x,vs with
 | .ref l,[y]=>∃xs,H l=some (.lst xs)/\xs.length<sizeLine/\Q .non (upd H l (.lst (xs++[y])))
 |_,_=>False
theorem M4{C:Addr->V->Prop}{x:V}{vs:List V}(h:match x,vs with|.ref l,[y]=>C l y|_,_=>False):∃l y,x = .ref l/\vs=[y]/\C l y:=by
 cases x with
 |ref l =>
  rcases vs with _|⟨y,_|⟨_,_⟩⟩
  ·exact(show False from h).elim
  ·exact⟨l,y,rfl,rfl,h⟩
  ·exact(show False from h).elim
 |_=>exact(show False from by rcases vs with _|⟨y,_|⟨_,_⟩⟩<;>exact h).elim
theorem Pd:MtR X "list.append" C9:=λpins s σ H x xs v us Q I rx rs h=>by
 obtain⟨l,y,rfl,rfl,ys,e,z,q⟩:=M4 (C:=λl y=>∃ys,H l=some (.lst ys)/\ys.length<sizeLine/\Q .non (upd H l (.lst (ys++[y])))) h;exact ci pins s σ H _ _ v us Q I rx rs ⟨l,ys,y,rfl,rfl,e,z,q⟩
def Bn:V->List V->Hp->VK->Prop:=λx vs H Q=>match x,vs with
 | .ref l,[]=>∃xs y,H l=some (.lst xs)/\xs[xs.length-1]?=some y/\Q y (upd H l (.lst xs.dropLast))
 |_,_=>False
def mBM(r:V->List V->Hp->VK->Prop)(to:TE)(t:TA):TE:=fun σ H Q=>to σ H λx H1=>(∃p xs,x = .ref p/\H1 p=some (.lst xs))/\t σ H1 λxs H2=>r x xs H2 Q
def Bg(r:V->List V->Hp->VK->Prop)(to:TE):TE:=fun σ H Q=>to σ H λx H1=>(∃p xs,x = .ref p/\H1 p=some (.lst xs))/\r x [] H1 Q
theorem S5{o e:Expr}{es:List Expr}{to:TE}{t:TA}{name:Str}{apos cpos:Pos}{id:String}{r:V->List V->Hp->VK->Prop}(slot:Slot "list" name id)(hty:typeOf (.builtin id)=pure (.type "method_descriptor"))(hm:MtR X id r)(ho:PE X o to)(ha:PA X (e::es) t)
  (mH:attributeBase o name X.env (eval o X.env)=eval o X.env:=by rfl)
  (qZ:((backTo cpos (starEach (e::es) X.env)).all (λx=>!x.1)&&(backToKw cpos (keywordEach [] X.env)).all (λx=>x.1.isSome)
  &&decide ((e::es).length+([]:List Keyword).length+(if([]:List Keyword).isEmpty then 0 else 1)<30))=true:=by rfl)
  (mF:(apos.endLine==cpos.line)=true:=by rfl) (hs:starEach (e::es) X.env=(false,eval e X.env)::starEach es X.env:=by rfl) (HB:(backTo cpos (starEach es X.env)).any (·.1)=false:=by rfl) :
  PE X (.Call (.Attribute o name apos) (e::es) [] cpos) (mBM r to t):=by
 intro pins s σ H Q I h;refine vH mH qZ mF rfl (thn (ho pins s σ H _ I h) λv s1 ⟨x,H1,I1,r1,⟨p,xs,e,hp⟩,q1⟩=>?_);subst e;obtain⟨h1,h2⟩:=Ka (T:="list") I1 r1 (.inl ⟨rfl,xs,SqL.of hp⟩);refine⟨"list",id,F.plainAttrs_list,slot,hty,h1,h2,?_⟩;have hA:=ha cpos pins s1 σ H1 _ I1 q1;rw[hs]at hA ⊢;refine vG (by show(false||(backTo cpos (starEach es X.env)).any (·.1))=false;rw[HB]<;>rfl) (uS ?_);exact thn hA λus s2 ⟨vs,H2,I2,r2,q2⟩=>hm pins s2 σ H2 _ vs v us Q I2 r1 r2 q2
def Cy(K:W.Frag)(tl:TE):TI:=fun σ H R=>tl σ H (Y7 λa H1=>((∃xs,SqL K H1 a xs)/\R (Itl K a) H1)\/((∃xs,SqT K H1 a xs)/\R (Itt K a) H1))
theorem wt{tg l:Expr}{tl:TE}(hl:PE X l tl):PI X tg l (Cy X.K tl):=by
 intro pins s σ H R I h;refine thn (hl pins s σ H _ I h) λv s1 ⟨x,H1,I1,r1,q1⟩=>?_;cases x with
 |ref a =>
  cases r1;rcases(show((∃xs,SqL X.K H1 a xs)/\R (Itl X.K a) H1)\/((∃xs,SqT X.K H1 a xs)/\R (Itt X.K a) H1)from q1)with⟨⟨xs,hq⟩,q⟩|⟨⟨xs,hq⟩,q⟩
  ·obtain⟨aJ,rv,p,hz⟩:=I1.list hq;refine vR p.isList ?_;refine⟨s1.heap.objs.size,[s1.heap.objs.size],_,_,H1,rfl,I1.kept (t':=s1.toks) λb o e=>zY _ e,Ua a _,⟨_,zS _ rfl,rfl,rfl⟩,λb hb=>?_,q⟩;have e:b=s1.heap.objs.size:=by simpa using hb
   subst e;exact I1.fpOk (zT _) (I1.hok.fresh (zT _))
  ·obtain⟨aJ,rv,p,hz⟩:=I1.tuple hq;refine wN (show s1.heap.IsTuple a aJ.toArray from p) ?_;refine⟨s1.heap.objs.size,[s1.heap.objs.size],_,_,H1,rfl,I1.kept (t':=s1.toks) λb o e=>zY _ e,X4 a _,⟨_,zS _ rfl,rfl,rfl⟩,λb hb=>?_,q⟩;have e:b=s1.heap.objs.size:=by simpa using hb
   subst e;exact I1.fpOk (zT _) (I1.hok.fresh (zT _))
 |_=>exact(show False from q1).elim
def iR1(ta:TA):TI:=fun σ H R=>ta σ H (on1 (P4 λj H1=>(-(2 ^ 62)<=j/\j<2 ^ 62)/\R (Itr 0 j.toNat) H1))
theorem vm{tg a:Expr}{ta:TA}{p pos:Pos}(hg:Gl X "range")(hm:X.mg "range"=none)(ha:PA X [a] ta)(hs:starEach [a] X.env=[(false,eval a X.env)]:=by rfl):PI X tg (.Call (.Name "range" p) [a] [] pos) (iR1 ta):=by
 intro pins s σ H R I h;refine Call_ (tu I hg hm boot_range (xC (thn (ha pos pins s σ H _ I h) λus s1 ⟨vs,H1,I1,r1,q1⟩=>?_) hs rfl));rcases vs with _|⟨x,_|⟨y,rr⟩⟩
 ·exact(show False from q1).elim
 ·cases x with
  |int j =>
   obtain⟨⟨q1,q2⟩,q⟩:=(show(-(2 ^ 62)<=j/\j<2 ^ 62)/\R (Itr 0 j.toNat) H1 from q1)
   cases r1 with
   |cons r rr =>
    cases rr;obtain⟨t,rfl⟩:=r;exact call_range_1 (Qs I1 (by lia) (by lia) q1 q2 (by simpa using q))
  |_=>exact(show False from q1).elim
 ·exact(show False from q1).elim
def Zu(g:TG)(tb:TS)(J:It)(D:wa)(σ:St)(H1:Hp):Prop:=∃W:Nat->Nat->St->Hp->Prop,(∃m,W 0 m σ H1)/\∀i m σ H,W i m σ H ->
 (J.stop i H/\D.nx σ H)\/(J.go i H/\∃N:St->Hp->Prop,(∀σ' H',N σ' H'->∃m',m'<m/\W (i+1) m' σ' H')/\∀x H',J.yld i H x H'->g x σ H' fun σ2 H2=>tb { D with nx:=N,ct:=N,bk:=D.nx } σ2 H2)
def Hk(wi:TI)(g:TG)(tb:TS):TS:=λD σ H=>wi σ H λJ H1=>Zu g tb J D σ H1
theorem uk{tg iter:Expr}{body:List Stmt}{wi:TI}{g:TG}{tb:TS}{pos:Pos}(hp:PassesOwn (model X.prog X.w) X.A X.env X.xe)(hc:X.calm=true)(hi:PI X tg iter wi)(hg:PG X tg g)(hb:PSs X body tb)
  (hs:∀x,foldedSetIterable iter X.env x=pure x:=by intro _;rfl):PS X (.For tg iter body [] pos) (Hk wi g tb):=Is hp hc hi hg hb hs
theorem b9{K:W.Frag}{a:Addr}{xs:List V}{g:TG}{tb:TS}{D:wa}{σ:St}{H:Hp}(Pv:Nat->St->Hp->Prop)(h0:Pv 0 σ H)(hl:∀i σ H,i<=xs.length->Pv i σ H->SqL K H a xs)
  (hs:∀i x σ H,xs[i]?=some x->Pv i σ H->g x σ H fun σ2 H2=>tb { D with nx:=Pv (i+1),ct:=Pv (i+1),bk:=D.nx } σ2 H2) (hd:∀σ H,Pv xs.length σ H->D.nx σ H):Zu g tb (Itl K a) D σ H:=On Pv h0 hl hs hd
theorem uj{K:W.Frag}{a:Addr}{xs:List V}{g:TG}{tb:TS}{D:wa}{σ:St}{H:Hp}(Pv:Nat->St->Hp->Prop)(h0:Pv 0 σ H)(hl:∀i σ H,i<=xs.length->Pv i σ H->SqT K H a xs)
  (hs:∀i x σ H,xs[i]?=some x->Pv i σ H->g x σ H fun σ2 H2=>tb { D with nx:=Pv (i+1),ct:=Pv (i+1),bk:=D.nx } σ2 H2) (hd:∀σ H,Pv xs.length σ H->D.nx σ H):Zu g tb (Itt K a) D σ H:=Lj Pv h0 hl hs hd
theorem ua{n:Nat}{g:TG}{tb:TS}{D:wa}{σ:St}{H:Hp}(Pv:Nat->St->Hp->Prop)(h0:Pv 0 σ H)
  (hs:∀i σ H,i<n->Pv i σ H->g (.int (0+(i:Int))) σ H fun σ2 H2=>tb { D with nx:=Pv (i+1),ct:=Pv (i+1),bk:=D.nx } σ2 H2) (hd:∀σ H,Pv n σ H->D.nx σ H):Zu g tb (Itr 0 n) D σ H:=Si Pv h0 hs hd
def Ck(c:TT)(tb:TS)(D:wa)(σ:St)(H:Hp):Prop:=Rn c tb D σ H
def Pc(c:TT)(tb:TS):TS:=λD σ H=>Ck c tb D σ H
theorem Lz{c:Expr}{body:List Stmt}{tc:TT}{tb:TS}{pos:Pos}(hp:PassesOwn (model X.prog X.w) X.A X.env X.xe)(hc:PT X c tc)(hb:PSs X body tb):PS X (.While c body [] pos) (Pc tc tb):=Qo hp hc hb
end
section
variable {K:W.Frag}{H:Hp}{Q:VK}{i j:Int}{x y:Str}{p r:Addr}{c d:Bool}{g:Bool->Bool}{v:V}{neg:Bool}
theorem Iw:Pa K (.int i) (.int j) H Q=Q (.int (i+j)) H:=rfl
theorem Iy:Pa K (.str x) (.str y) H Q=(x.length+y.length<=sizeLine/\Q (.str (x++y)) H):=rfl
theorem Ix:Pa K (.ref p) (.ref r) H Q=((∃xs ys,H p=some (.lst xs)/\H r=some (.lst ys)/\xs.length+ys.length<=sizeLine/\New H (.lst (xs++ys)) Q) \/
   ∃xs ys,SqT K H p xs/\SqT K H r ys/\xs.length+ys.length<=sizeLine/\∀(p:Addr)(H':Hp),Same H H'->SqT K H' p (xs++ys)->Q (.ref p) H'):=rfl
theorem Bv{C:Int->Int->Prop}{f:Int->Int->V}:mII C f (.int i) (.int j) H Q=(C i j/\Q (f i j) H):=rfl
theorem Eu{f:Int->Int->V}:Lr f (.int i) (.int j) H Q=Q (f i j) H:=rfl
theorem Ep:j6 K g (.int i) (.int j) H Q=Q (.bl (g (decide (i=j)))) H:=rfl
theorem Eo:j6 K g (.bl c) (.bl d) H Q=Q (.bl (g (decide (c=d)))) H:=rfl
theorem Et:j6 K g (.str x) (.str y) H Q=Q (.bl (g (decide (x=y)))) H:=rfl
theorem Jd:j6 K g .non .non H Q=Q (.bl (g true)) H:=rfl
theorem Jb:j6 K g .non (.bl c) H Q=Q (.bl (g false)) H:=rfl
theorem Iz:j6 K g (.bl c) .non H Q=Q (.bl (g false)) H:=rfl
theorem Jc:j6 K g .non (.int i) H Q=Q (.bl (g false)) H:=rfl
theorem I0:j6 K g (.int i) .non H Q=Q (.bl (g false)) H:=rfl
theorem Er:j6 K g (.ref p) (.ref r) H Q=(∃da db,Has K H (.ref p) da/\Has K H (.ref r) db/\SeqAt.shaped da=true/\SeqAt.shaped db=true/\Q (.bl (g (PyData.eqv da db))) H):=rfl
theorem E1:mLe (.int i) (.int j) H Q=Q (.bl (decide (i<=j))) H:=rfl
theorem Ez:mLe (.bl c) (.bl d) H Q=Q (.bl (!c||d)) H:=rfl
theorem Bw:mIn K neg v (.ref p) H Q=(∃xs,(SqL K H p xs\/SqT K H p xs)/\vg v=true/\xs.all vg=true/\Q (.bl (if neg then !inV v xs else inV v xs)) H):=rfl
theorem Ey:mIx K (.str x) (.int i) H Q=(x.length<=sizeLine/\∃c,atI x.cps.toList i=some c/\Q (.str ⟨#[c]⟩) H):=rfl
theorem Ex:mIx K (.ref p) (.int i) H Q=(∃xs v,(SqL K H p xs\/SqT K H p xs)/\atI xs i=some v/\Q v H):=rfl
theorem E7{lo hi:Option Int}:mSl K (.str x) lo hi H Q=(x.length<=sizeLine/\Q (.str (Txt.slice x lo hi)) H):=rfl
theorem E6{lo hi:Option Int}:mSl K (.ref p) lo hi H Q=((∃xs,SqL K H p xs/\New H (.lst (rm xs lo hi)) Q)\/∃xs,SqT K H p xs/\∀(p:Addr)(H':Hp),Same H H'->SqT K H' p (rm xs lo hi)->Q (.ref p) H'):=rfl
theorem Jh:Hm K [.str x] H Q=(x.length<=sizeLine/\Q (.int x.length) H):=rfl
theorem Jg:Hm K [.ref p] H Q=(∃ys,(SqL K H p ys\/SqT K H p ys)/\Q (.int ys.length) H):=rfl
theorem Qq:Ls K [.ref p] H Q=(∃ys,(SqL K H p ys\/SqT K H p ys)/\New H (.lst ys) Q):=rfl
theorem Mw:Pb K [.ref p] H Q=(∃ys,(SqL K H p ys\/SqT K H p ys)/\∀(r:Addr)(H':Hp),Same H H'->SqT K H' r ys->Q (.ref r) H'):=rfl
theorem Ew{T:String}:De K [v,.ty T] H Q=(∃t b,TyX K H v t/\W.kitOne K t (.type T)=some b/\Q (.bl b) H):=rfl
theorem Em:C9 (.ref p) [v] H Q=(∃xs,H p=some (.lst xs)/\xs.length<sizeLine/\Q .non (upd H p (.lst (xs++[v])))):=rfl
theorem E4:Bn (.ref p) [] H Q=(∃xs y,H p=some (.lst xs)/\xs[xs.length-1]?=some y/\Q y (upd H p (.lst xs.dropLast))):=rfl
end
structure zh(P:Program)(w:World)(K:W.Frag)(mg:Str->Option Value)(base:Heap)(k:Nat)(x:Str)(ps:List Str)(sp:Sp):Prop where
 ex:∃(f:Addr)(fd:FuncData),vc P w K mg base CX0 k f fd ps sp/\Binds K fd ps []/\W.keepIn K (.ref f)=true/\mg x=some (.ref f)
theorem zg{X:Cx}{k k':Nat}{x:Str}{ps:List Str}{sp:Sp}{t:TA}{e:Expr}{es:List Expr}{p pos:Pos}(C:zh X.prog X.w X.K X.mg X.base k x ps sp)(hr:Room k' X.A)(hk:k<=k')(ha:PA X (e::es) t)(hg:Gl X x:=by rfl)
  (kH:(x==("__debug__":Str))=false:=by decide) (he:starEach (e::es) X.env=(false,eval e X.env)::starEach es X.env:=by rfl) (dE:(backTo pos (starEach es X.env)).any (·.1)=false:=by rfl) :
  PE X (.Call (.Name x p) (e::es) [] pos) (dn sp [] E0 t):=by
 obtain⟨f,fd,F,b,kp,hm⟩:=C.ex;exact Va F (hr.mono hk) hg hm kp b .nil Qb ha kH he dE
structure Def(K:W.Frag)(mg:Str->Option Value)(x:Str)(st:Stmt)(ps:List Str):Prop where
 ex:∃(f:Addr)(fd:FuncData),Fun K x x st f fd/\(∀us:List Value,us.length=ps.length->bindArgs fd ⟨us,[]⟩=pure (ps.zip us))/\mg x=some (.ref f)
section
variable {P:Program}{w:World}{K:W.Frag}{mg:Str->Option Value}{base:Heap}
theorem Oo{x:Str}{st:Stmt}{f:Addr}{fd:FuncData}{N ps:List Str}{k:Nat}{sp:Sp}(F:Fun K x x st f fd)(S:zm N ps (zy st))(len:∀vs H Q E,sp vs H Q E->vs.length=ps.length)
  (bF:∀(f:Addr)(cdv:Value)(A:Around)(outer:List Env)(s:Shared)(H:Hp)(vs:List V)(Q:VK)(E:XK),Room k (A.deeper (envOfC x (zy st) s.heap.objs.size f cdv))->sp vs H Q E ->
   ∃σ t,start N vs=σ/\PSs (ww CX0 P w K mg base N x (zy st) f cdv A outer s H E).nox (zr st) t/\t { nx:=λ_ H'=>Q .non H',rt:=Q } σ H):vc P w K mg base CX0 (k+1) f fd ps sp :=
 F.ok S len λcdv A outer s H vs Q E hr h=>by
  obtain⟨σ,t,e,ht,q⟩:=bF f cdv A outer s H vs Q E hr h;exact⟨t,ht,by rw[e];exact q⟩
theorem Def.callee{x:Str}{st:Stmt}{N ps:List Str}{k:Nat}{sp:Sp}(F:Def K mg x st ps)(S:zm N ps (zy st))(len:∀vs H Q E,sp vs H Q E->vs.length=ps.length)
  (bF:∀(f:Addr)(cdv:Value)(A:Around)(outer:List Env)(s:Shared)(H:Hp)(vs:List V)(Q:VK)(E:XK),Room k (A.deeper (envOfC x (zy st) s.heap.objs.size f cdv))->sp vs H Q E ->
   ∃σ t,start N vs=σ/\PSs (ww CX0 P w K mg base N x (zy st) f cdv A outer s H E).nox (zr st) t/\t { nx:=λ_ H'=>Q .non H',rt:=Q } σ H):zh P w K mg base (k+1) x ps sp:=by
 obtain⟨f,fd,F,b,hm⟩:=F.ex;exact⟨f,fd,Oo F S len bF,.all b,F.kp,hm⟩
theorem y8{h:Heap}{x:Str}{st:Stmt}{ps:List Str}{f:Addr}{oc:Value}{od an:Option Addr}{osl:Array (Option Value)}{kV doc pm cdv ct:Value}(X:K.In h)(G:h.Ns mainGlobals mg)
  (a:W.nsIn K mainGlobals x=some (some (.ref f))) (l:K.lookup f=some ⟨oc,od,.func (W.fnOf x x (zp st) (zr st) (zy st) .none kV doc pm an cdv ct),osl⟩)
  (c:W.codeIn K cdv x=true) (k:W.keepIn K (.ref f)=true)
  (hb:∀(kV doc pm:Value)(an:Option Addr)(cdv ct:Value)(us:List Value),us.length=ps.length->bindArgs (W.fnOf x x (zp st) (zr st) (zy st) .none kV doc pm an cdv ct) ⟨us,[]⟩=pure (ps.zip us)):Def K mg x st ps :=
 ⟨f,_,Z3 l c k,hb kV doc pm an cdv ct,yA X G a⟩
end
end My
namespace My
open PySem PySem.Spec L2
open PyProof.Rows hiding St
def yg(X:Cx)(N':List Str)(scope:Scope)(cl:List (Str×Addr))(C:Addr)(s₀:Shared)(H₀:Hp)(ex:List Addr):Cx where
 prog:=X.prog
 w:=X.w
 K:=X.K
 mg:=X.mg
 base:=X.base
 A:=X.A
 N:=N'
 s₀:=s₀
 H₀:=H₀
 env:=compEnvC scope cl C X.env
 outer:=X.stack
 stack:=X.stack
 ex:=ex
 fn:=λ_=>false
 calm:=X.calm
 pn:=[]
 xe:=λ_ _=>False
structure CompOk(X:Cx)(own N:List Str)(scope:Scope)(cl:List (Str×Addr)):Prop where
 clos:closureFor scope X.env=pure cl
 sub:∀p∈cl,X.env.cells.lookup p.1=some p.2
 have_:∀p∈scope.names,p.2 = .free->∃c,cl.lookup p.1=some c
 nocell:∀y∈scope.names,y.2≠.cell
 kind:scope.kind = .function
 names:∀y∈scope.names,y.2 = .local->scope.names.lookup y.1=some .local
 mine:∀x∈own,scope.names.lookup x=some .local
 nd:(own++N).Nodup
 cells:∀y∈N,X.env.kindOf y=some .cell\/X.env.kindOf y=some .free
 free:∀y∈N,∃c,cl.lookup y=some c
 vis:∀y∈N,(relabel scope X.env).names.lookup y=some .cell\/(relabel scope X.env).names.lookup y=some .free
theorem vh{env:Env}:∀{names:List (Str×NameKind)}{x:Str}{k:NameKind},
  (names.map λ(n,k)=>if(k==NameKind.free&&env.scope.kind == .function&&env.kindOf n==some .cell)then(n,NameKind.cell)else(n,k)).lookup x=some k ->
  (k = .cell\/k = .free)->names.lookup x=some .cell\/names.lookup x=some .free
 |[],_,_,h,_=>by simp at h
 |(n,k')::r,x,k,h,hk=>by
  have ih:=@vh env r x k;have h':List.lookup x ((if(k'==NameKind.free&&env.scope.kind == .function&&env.kindOf n==some .cell)=true then(n,NameKind.cell)else(n,k'))::(r.map λ(n,k)=>if(k==NameKind.free&&env.scope.kind == .function&&env.kindOf n==some .cell)then(n,NameKind.cell)else(n,k)))=some k:=h
  by_cases hc:(k'==NameKind.free&&env.scope.kind == .function&&env.kindOf n==some .cell)=true
  ·rw[zG hc]at h';have iG:k' = .free:=by
    rw[yY,yY]at hc;exact eq_of_beq hc.1.1
   cases hx:x==n with
   |true=>right;simp only[uN,hx,iG]
   |false =>
    simp only[uN,hx]at h' ⊢;exact ih h' hk
  ·rw[zM hc]at h';cases hx:x==n with
   |true =>
    simp only[uN,hx]at h' ⊢;cases h';rcases hk with rfl|rfl
    ·left;rfl
    ·right;rfl
   |false =>
    simp only[uN,hx]at h' ⊢;exact ih h' hk
section
variable {X:Cx}{own N:List Str}{scope:Scope}{cl:List (Str×Addr)}
theorem CompOk.up(k:CompOk X own N scope cl){y:Str}{c:Addr}(h:cl.lookup y=some c):X.env.cells.lookup y=some c:=k.sub (y,c) (wV h)
theorem Gy{NX:List Str}{ixs:List Nat}{N:List Str}(h:ixs.map (λi=>NX[i]?)=N.map some):ixs.length=N.length:=by
 have:=xH List.length h;simpa using this
theorem C0{NX:List Str}{ixs:List Nat}{N:List Str}(h:ixs.map (λi=>NX[i]?)=N.map some):∀(j:Nat)(i:Nat),ixs[j]?=some i->∃y,NX[i]?=some y/\N[j]?=some y:=λj i e=>by
 have h1:(ixs.map (λi=>NX[i]?))[j]?=(N.map some)[j]?:=by rw[h]
 rw[yI,yI,e]at h1;cases e2:N[j]? with
 |none=>rw[e2]at h1;cases h1
 |some y=>rw[e2]at h1;exact⟨y,yT h1,rfl⟩
theorem xq(clos:closureFor scope X.env=pure cl)(sub:cl.map (λp=>X.env.cells.lookup p.1)=cl.map (λp=>some p.2))
  (b1:(scope.names.all λp=>!(p.2 == .free)||(cl.lookup p.1).isSome)=true) (b2:(scope.names.all λp=>!(p.2 == .cell))=true) (kind:scope.kind = .function)
  (b3:(scope.names.all λp=>!(p.2 == .local)||scope.names.lookup p.1==some .local)=true) (ow:own.map (λx=>scope.names.lookup x)=own.map (λ_=>some .local)) (nd:(own++N).Nodup)
  (b4:(N.all λy=>X.env.kindOf y==some .cell||X.env.kindOf y==some .free)=true) (b5:(N.all λy=>(cl.lookup y).isSome)=true)
  (b6:(N.all λy=>(relabel scope X.env).names.lookup y==some .cell||(relabel scope X.env).names.lookup y==some .free)=true):CompOk X own N scope cl:=by
 rw[yS]at b1 b2 b3 b4 b5 b6;refine⟨clos,List.map_inj_left.mp sub,λp hp hf=>?_,λp hp hc=>?_,kind,λp hp hl=>?_,List.map_inj_left.mp ow,nd,λy hy=>?_,λy hy=>uC.mp (b5 y hy),λy hy=>?_⟩
 ·have h:=b1 p hp;rw[hf]at h;exact uC.mp (by simpa using h)
 ·have h:=b2 p hp;rw[hc]at h;simp at h
 ·have h:=b3 p hp;rw[hl]at h;simpa using h
 ·have h:=b4 y hy;rw[vA]at h;exact h.imp eq_of_beq eq_of_beq
 ·have h:=b6 y hy;rw[vA]at h;exact h.imp eq_of_beq eq_of_beq
theorem Og{pins:List (Addr×Obj)}{σ:St}{H:Hp}{s:Shared}{fp:List Addr}{h₁:Heap}{tk:Nat}{ixs:List Nat}(k:CompOk X own N scope cl)(I:Inv X pins σ H s)(hf:∀b∈fp,pk X pins H b)(hfp:∀b∈fp,b<s.heap.objs.size)
  (hix:∀(j:Nat)(i:Nat),ixs[j]?=some i->∃y,X.N[i]?=some y/\N[j]?=some y) (aZ:ixs.length=N.length)
  (EN:h₁.Ns s.heap.objs.size λ_=>none) (UR:∀b o,b≠s.heap.objs.size->s.heap.get? b=some o->h₁.get? b=some o) :
  Inv (yg X (own++N) scope cl s.heap.objs.size s H fp) [] (own.map (λ_=>none)++ixs.map (gv σ)) H { s with heap:=h₁,toks:=tk }:=by
 have old:∀b o,s.heap.get? b=some o->h₁.get? b=some o:=λb o e=>UR b o (zC (zU e)) e;have nfs:∀b∈fp,b∉frs X.stack:=λb hb z=>by
  rcases zL.mp (I.stkSub b z)with e|e
  ·exact(hf b hb).2.1 e
  ·exact(hf b hb).2.2.1 e
 refine⟨⟨I.ok.mod,?_,I.ok.glob,I.ok.blt,zT _,?_,?_,?_,I.ok.hd,I.ok.frames,.inl rfl,?_,I.bs,yQ I.ok.bsz I.sz,?_,nfs,I.stack,I.stkFree⟩,
  rfl,I.bare,Un.kept old,⟨λ_=>none,EN,?_⟩,?_,I.hok.fresh (zT _),?_,λp hp=>absurd hp (by simp[yg]),I.hok.kept old,?_⟩
 ·exact k.kind
 ·exact λy z c h1 h2=>I.ok.inj y z c (k.up h1) (k.up h2)
 ·intro y hy;have GW:scope.names.lookup y=some .cell\/scope.names.lookup y=some .free:=by
   rcases hy with hy|hy
   ·exact vh (env:=X.env) hy (.inl rfl)
   ·exact vh (env:=X.env) hy (.inr rfl)
  rcases GW with GW|GW
  ·exact absurd rfl (k.nocell _ (wV GW))
  ·exact k.have_ _ (wV GW) rfl
 ·intro y c h1;exact absurd h1 (by simp[yg])
 ·intro b hb;exact⟨zC (hfp b hb),λy c e=>(hf b hb).2.2.2.2.1 y c (k.up e)⟩
 ·intro b o e hb;rcases(hf b hb).2.2.2.1 with z|z
  ·exact I.ok.noex b o e z
  ·exact absurd (zA (zU e) (yQ I.ok.bsz z)) (wY _)
 ·intro i y v h1 h2 h3;have h1:(own++N)[i]?=some y:=h1
  by_cases hio:i<own.length
  ·rw[wW (by simpa using hio)]at h2;simp[hio]at h2
  ·have rA:(ixs.map (gv σ))[i-own.length]?=some (some v):=by rw[wB (by simpa using hio)]at h2;simpa using h2
   have VI:N[i-own.length]?=some y:=by rw[wB (by lia)]at h1;exact h1
   generalize i-own.length=i at VI rA;rw[yI]at rA;cases e:ixs[i]? with
   |none=>rw[e]at rA;cases rA
   |some j =>
    rw[e]at rA;have h2'':gv σ j=some v:=by simpa using rA
    obtain⟨z,hz,BI⟩:=hix i j e;rw[VI]at BI;cases BI;have hm:=zB VI;obtain⟨m,hn,hl⟩:=I.loc;have hvis:Vis X.env.scope y:=.inr (k.cells y hm);obtain⟨u,ru,l⟩:=hl j y v hz (Wj h2'') hvis;refine⟨u,ru,?_⟩;rcases l with⟨l,_⟩|⟨_,c,ec,ic⟩
    ·exfalso;rcases k.cells y hm with z|z<;>(rw[l]at z;cases z)
    ·obtain⟨c',ec'⟩:=k.free y hm;have:c=c':=yT (ec.symm.trans (k.up ec'));subst this;refine .inr ⟨?_,c,ec',?_⟩
     ·exact k.vis y hm
     ·obtain⟨o,ho,hd⟩:=ic;exact⟨o,old _ _ ho,hd⟩
 ·intro y c e;obtain⟨v,o,ho,hd⟩:=I.cell y c (k.up e);exact⟨v,o,old _ _ ho,hd⟩
 ·intro y c e;exact I.freeC y c (k.up e)
 ·show(own.map (λ_=>none)++ixs.map (gv σ)).length=(own++N).length;simp[aZ]
def PIf(X:Cx)(oJ:List Expr)(t:TT):Prop:=∀(pins:List (Addr×Obj))(s:Shared)(σ:St)(H:Hp)(Q:Bool->Hp->Prop),Inv X pins σ H s->t σ H Q ->
 wpAny (model X.prog X.w) X.A (forIn oJ true λc r=>if r=true then do let ok <-isTrue c X.env (eval c X.env);pure (ForInStep.yield ok)else pure (ForInStep.yield r)) (TP X pins σ Q) X.xe s
def dr:TT:=λ_ H Q=>Q true H
theorem v8:PIf X [] dr:=λpins s σ H Q I h=>by
 rw[List.forIn_nil];exact zW ⟨H,I,h⟩
theorem Z0(oQ bZ iter:Expr)(oJ:List Expr)(scope:Scope)(pos:Pos)(it cW:Value)(env:Env):
  compTurn (.ListComp oQ [⟨bZ,iter,oJ,0⟩] scope pos) 0 it cW env=(standAt iter.pos >>=λ_=>pyNext it >>=λr=>match r with
   |none=>pure (.done .next)
   |some v=>letOwnedTupleGo bZ it v >>=λ_=>assign bZ env v >>=λ_ =>
    (forIn oJ true λc r=>if r=true then do let ok <-isTrue c env (eval c env);pure (ForInStep.yield ok)else pure (ForInStep.yield r)) >>=λok =>
     if ok=true then(eval oQ env >>=λx=>call (.builtin "list.append") [cW,x] >>=λ_=>pure ()) >>=λ_=>again (.compLoop (.ListComp oQ [⟨bZ,iter,oJ,0⟩] scope pos) 0 it cW env)
     else again (.compLoop (.ListComp oQ [⟨bZ,iter,oJ,0⟩] scope pos) 0 it cW env)):=by rfl
theorem d0{prog:Program}{w:World}{A:Around}{R:Result->Shared->Prop}{s:Shared}{oQ bZ iter:Expr}{oJ:List Expr}{scope:Scope}{pos:Pos}{it cW:Value}{env:Env}(I:Nat->Shared->Prop)
  (lN:∀n s,I n s->∀E:Value->Shared->Prop,wpAny (model prog w) A (pyNext it) (λr s₁=>match r with
   |none=>R (.ok .next) s₁
   |some v=>wpAny (model prog w) A (letOwnedTupleGo bZ it v) (λ_ s₁'=>wpAny (model prog w) A (assign bZ env v) (λ_ s₂ =>
     wpAny (model prog w) A (forIn oJ true λc r=>if r=true then do let ok <-isTrue c env (eval c env);pure (ForInStep.yield ok)else pure (ForInStep.yield r)) (λok s₂'=>if ok=true then wpAny (model prog w) A (eval oQ env) (λx s₃ =>
      wpAny (model prog w) A (call (.builtin "list.append") [cW,x]) (λ_ s₄=>∃m,m<n/\I m s₄) E s₃) E s₂' else∃m,m<n/\I m s₂') E s₂) E s₁') E s₁) E s)
  (n:Nat) (h:I n s) :
  codeAny (model prog w) A (.compLoop (.ListComp oQ [⟨bZ,iter,oJ,0⟩] scope pos) 0 it cW env) R s:=by
 refine codeAny_loop rfl I (λn s hI=>?_) n h;show wpAny _ _ ((compTurn (.ListComp oQ [⟨bZ,iter,oJ,0⟩] scope pos) 0 it cW env).onRaise (λx=>do noteFrame x env;theTreesLotGoes x)) _ _ s;refine wpAny_noted ?_;rw[Z0];refine zZ (wpAny_standAt (zZ (yN (lN n s hI _) (λr s₁ h₁=>?_) λ_ _ h'=>h')));cases r with
 |none=>exact zW h₁
 |some v =>
  refine zZ (yN h₁ (λ_ s₁' h₁'=>zZ (yN h₁' (λ_ s₂ h₂=>zZ (yN h₂ (λok s₂' h₂'=>?_) λ_ _ h'=>h')) λ_ _ h'=>h')) λ_ _ h'=>h');cases ok with
  |true =>
   simp only[if_true]at h₂' ⊢;exact zZ (zZ (yN h₂' (λx s₃ h₃=>zZ (yN h₃ (λ_ s₄ h₄=>zW (zW ⟨rfl,h₄⟩)) λ_ _ h'=>h')) λ_ _ h'=>h'))
  |false =>
   simp only[Bool.false_eq_true,if_false]at h₂' ⊢;exact zW ⟨rfl,h₂'⟩
def qf(no:Nat)(g:TG)(tt:TT)(te:TE)(ρ:St)(J:It)(Q:VK)(H1:Hp):Prop:=∀(D:Addr)(H2:Hp),H1 D=none->Same H1 H2->H2 D=some (.lst []) ->
 ∃W:Nat->Nat->List V->Hp->Prop,(∃m,W 0 m [] H2)/\∀i m ys H',W i m ys H'->H' D=some (.lst ys) /\
  ((J.stop i H'/\Q (.ref D) H')\/(J.go i H'/\ys.length<sizeLine/\∀(τ:St) v CT,τ.length=no->J.yld i H' v CT->g v (τ++ρ) CT fun σ2 H3=>(∃τ':St,σ2=τ'++ρ/\τ'.length=no)/\tt σ2 H3 λb H4 =>
   if b=true then te σ2 H4 λy H5=>H5 D=some (.lst ys)/\∃m',m'<m/\W (i+1) m' (ys++[y]) (upd H5 D (.lst (ys++[y])))else∃m',m'<m/\W (i+1) m' ys H4))
def Rj(no:Nat)(ixs:List Nat)(wi:TI)(g:TG)(tt:Addr->Shared->Hp->List Addr->TT)(te:Addr->Shared->Hp->List Addr->TE):TE:=fun σ H Q=>wi σ H λJ H1=>∀(C:Addr)(s₀:Shared)(H₀:Hp)(ex:List Addr),qf no g (tt C s₀ H₀ ex) (te C s₀ H₀ ex) (ixs.map (gv σ)) J Q H1
theorem Al{X:Cx}{N':List Str}{scope:Scope}{cl:List (Str×Addr)}{C:Addr}{s₀:Shared}{H₀:Hp}{ex:List Addr}:(yg X N' scope cl C s₀ H₀ ex).K=X.K:=rfl
theorem Wd{oQ iter tg:Expr}{oJ:List Expr}{ixs:List Nat}{g:TG}{tt:Addr->Shared->Hp->List Addr->TT}{te:Addr->Shared->Hp->List Addr->TE}{pos:Pos}{pins:List (Addr×Obj)}{σ:St}{H:Hp}{s₂:Shared}{it:Addr}{fp:List Addr}{tn:Nat->Heap->Prop}{J:It}{Q:VK}{RR:Value->Addr->Result->Shared->Prop}{E:Value->Shared->Prop}
  (k:CompOk X own N scope cl) (sN:X.calm=true) (hix:∀(j:Nat)(i:Nat),ixs[j]?=some i->∃y,X.N[i]?=some y/\N[j]?=some y) (aZ:ixs.length=N.length)
  (hg:∀(C:Addr)(s₀:Shared)(H₀:Hp)(ex:List Addr),PG (yg X (own++N) scope cl C s₀ H₀ ex) tg g)
  (ht:∀(C:Addr)(s₀:Shared)(H₀:Hp)(ex:List Addr),PIf (yg X (own++N) scope cl C s₀ H₀ ex) oJ (tt C s₀ H₀ ex))
  (he:∀(C:Addr)(s₀:Shared)(H₀:Hp)(ex:List Addr),PE (yg X (own++N) scope cl C s₀ H₀ ex) oQ (te C s₀ H₀ ex))
  (I:Inv X pins σ H s₂) (T:dz X.prog X.w X.K tg J fp it tn) (st:tn 0 s₂.heap) (hf:∀b∈fp,pk X pins H b)
  (q:∀(C:Addr)(s₀:Shared)(H₀:Hp)(ex:List Addr),qf own.length g (tt C s₀ H₀ ex) (te C s₀ H₀ ex) (ixs.map (gv σ)) J Q H)
  (hRR:∀(D C:Addr)(H':Hp)(s':Shared)(m:Str->Option Value),Inv X pins σ H' s'->s'.heap.Ns C m->H' C=none->C≠X.env.locals->C∉X.fs->(∀p∈X.pn++pins,p.1≠C)->(∀y c,X.env.cells.lookup y=some c->c≠C)->X.s₀.heap.objs.size<=C->Q (.ref D) H'->RR (.ref D) C (.ok .next) s') :
  wpAny (model X.prog X.w) X.A (newList []) (λcW s₃=>wpAny (model X.prog X.w) X.A (newFunctionEnv scope X.env.globals cl [] X.env.qual none .none (some X.env)) (λXZ s₄ =>
   codeAny (model X.prog X.w) X.A (.compStart (.ListComp oQ [⟨tg,iter,oJ,0⟩] scope pos) 0 (.ref it) cW { XZ with scope:=relabel scope X.env }) (RR cW XZ.locals) s₄) E s₃) E s₂:=by
 refine yE (wpAny_newFunctionEnv k.nocell (by intro y hy;simp at hy) (λh₁ EN₁ hsb₁=>?_) k.kind);dsimp only at EN₁ hsb₁ ⊢;have BR:H s₂.heap.objs.size=none:=I.hok.fresh (zT _);have I3:Inv X pins σ (upd H s₂.heap.objs.size (.lst [])) { s₂ with heap:=s₂.heap.push { cls:=.type "list",dict:=none,data:=.seq ([]:List Value).toArray } } :=
  I.laid (t':=s₂.toks) (λb o e=>zY _ e) (zT _) ⟨yJ _,[],0,.nil,zS _ rfl⟩
 obtain⟨W,⟨m0,w0⟩,lN⟩:=q (s₂.heap.push { cls:=.type "list",dict:=none,data:=.seq ([]:List Value).toArray }).objs.size { s₂ with heap:=s₂.heap.push { cls:=.type "list",dict:=none,data:=.seq ([]:List Value).toArray } } (upd H s₂.heap.objs.size (.lst [])) fp s₂.heap.objs.size _ BR (we BR _) zu;have qD:∀b o,s₂.heap.get? b=some o->(s₂.heap.push { cls:=.type "list",dict:=none,data:=.seq ([]:List Value).toArray }).get? b=some o:=λb o e=>zY _ e;have EY:∀b∈fp,b<s₂.heap.objs.size:=λb hb=>by
  obtain⟨o,e,_⟩:=T.obj _ _ st b hb;exact zU e
 have hf3:∀b∈fp,pk X pins (upd H s₂.heap.objs.size (.lst [])) b:=λb hb=>⟨by rw[zj (zC (EY b hb))];exact(hf b hb).1,(hf b hb).2⟩
 generalize hH3:upd H s₂.heap.objs.size (.lst [])=H3 at I3 w0 hf3 lN;generalize hh2:s₂.heap.push { cls:=.type "list",dict:=none,data:=.seq ([]:List Value).toArray }=h2 at I3 EN₁ hsb₁ qD lN ⊢;have UF:h2.objs.size=s₂.heap.objs.size+1:=by rw[<-hh2,xK]
 have fp2:∀b∈fp,b<h2.objs.size:=λb hb=>by rw[UF];exact vQ (EY b hb)
 have US:∀b o,b≠h2.objs.size->h2.get? b=some o->h₁.get? b=some o:=λb o hb e=>hsb₁.extBut b o hb (zY _ e);have I4:=Og (fp:=fp) (h₁:=h₁) (tk:=s₂.toks+([]:List (Str×Value)).length) (s:={ s₂ with heap:=h2 }) k I3 hf3 fp2 hix aZ (by simpa using EN₁) US;have st4:tn 0 h₁:=T.keep _ _ _ st λb hb o e=>US b o (zC (fp2 b hb)) (qD b o e);have fr4:∀b∈fp,H3 b=none:=λb hb=>(hf3 b hb).1;have blk:∀{H':Hp},(∀b∈fp,H' b=none)->∀b∈fp,pk (yg X (own++N) scope cl h2.objs.size { s₂ with heap:=h2 } H3 fp) [] H' b:=λhn b hb =>
  ⟨hn b hb,(I4.ok.exf b hb).1,I4.ok.exfs b hb,.inl hb,(I4.ok.exf b hb).2,λp hp=>absurd hp (by simp[yg])⟩
 have loop:∀s₃:Shared,s₃={ s₂ with heap:=h₁,toks:=s₂.toks+([]:List (Str×Value)).length } ->
   codeAny (model X.prog X.w) X.A (.compLoop (.ListComp oQ [⟨tg,iter,oJ,0⟩] scope pos) 0 (.ref it) (.ref s₂.heap.objs.size) (compEnvC scope cl h2.objs.size X.env)) (RR (.ref s₂.heap.objs.size) h2.objs.size) s₃:=by
  rintro s₃ rfl;refine d0 (λn s'=>∃i τ ys H',τ.length=own.length/\Inv (yg X (own++N) scope cl h2.objs.size { s₂ with heap:=h2 } H3 fp) [] (τ++ixs.map (gv σ)) H' s'/\tn i s'.heap/\(∀b∈fp,H' b=none)/\W i n ys H') ?_ m0 ⟨0,own.map (λ_=>none),[],H3,by simp,I4,st4,fr4,w0⟩;rintro n s5 ⟨i,τ,ys,H5,hτ,I5,CI,KI,w5⟩ E';obtain⟨hD,alt⟩:=lN i n ys H5 w5;rcases alt with⟨stop,qn⟩|⟨go,hz,step⟩
  ·refine yN (T.done (yg X (own++N) scope cl h2.objs.size { s₂ with heap:=h2 } H3 fp) rfl rfl rfl sN i [] s5 _ H5 E' I5 (blk KI) CI stop) (λr s6 hr=>?_) λ_ _ e=>e;obtain⟨rfl,I6⟩:=hr;obtain⟨m6,hn6,_⟩:=I6.loc;have J6:Inv X pins σ H5 s6:=by
    refine I3.call' (ch:=fp) I6.os I6.base I6.hok I6.bare λb hb=>?_;obtain⟨_,f1,f2,f3,f4,f5⟩:=hf3 b hb;exact⟨f3,f1,f4,f5⟩
   have szle:X.s₀.heap.objs.size<=h2.objs.size:=I3.sz;refine hRR s₂.heap.objs.size h2.objs.size H5 s6 m6 J6 hn6 I6.free (wF I3.lt) (I3.nofs (zT _)) (λp hp z=>?_) (λy c e z=>?_) szle qn
   ·exact absurd (zU (I3.pin p hp).1) (by rw[z];exact wY _)
   ·obtain⟨u,ic⟩:=I3.cell y c e;exact absurd ic.lt (by rw[z];exact wY _)
  ·refine yN (T.item (yg X (own++N) scope cl h2.objs.size { s₂ with heap:=h2 } H3 fp) rfl rfl rfl sN i [] s5 _ H5 E' I5 (blk KI) CI go) (λr s6 hr=>?_) λ_ _ e=>e;obtain⟨u,rfl,h6⟩:=hr;refine yN h6 (λ_ s7 h7=>?_) λ_ _ e=>e;obtain⟨xv,H7,I7,r7,y7,st7,fr7⟩:=h7;have I7':=I7.pinned (blk fr7) (T.obj _ _ st7);refine yN (hg _ _ _ _ _ s7 _ H7 xv u _ I7' r7 (step τ xv H7 hτ y7)) (λ_ s8 h8=>?_) λ_ _ e=>e.elim;obtain⟨σ8,H8,I8,⟨τ',rfl,hτ'⟩,q8⟩:=h8;refine yN (ht _ _ _ _ _ s8 _ H8 _ I8 q8) (λok s9 h9=>?_) λ_ _ e=>e.elim;obtain⟨H9,I9,q9⟩:=h9;have ZF:∀(DL:Hp)(ED:Shared)(KJ:List V)(m':Nat),Inv (yg X (own++N) scope cl h2.objs.size { s₂ with heap:=h2 } H3 fp) ([]++qa fp s7.heap) (τ'++ixs.map (gv σ)) DL ED->m'<n->W (i+1) m' KJ DL ->
     ∃m,m<n/\∃i τ ys H',τ.length=own.length/\Inv (yg X (own++N) scope cl h2.objs.size { s₂ with heap:=h2 } H3 fp) [] (τ++ixs.map (gv σ)) H' ED/\tn i ED.heap/\(∀b∈fp,H' b=none)/\W i m ys H':=λDL ED KJ m' I10 mE w10=>by
    refine⟨m',mE,i+1,τ',KJ,DL,hτ',I10.unpinned (pins:=[]),T.keep _ _ _ st7 λb hb o e=>(I10.pin (b,o) (zQ _ (zQ _ (wn hb e)))).1,λb hb=>?_,w10⟩;obtain⟨o,e,d⟩:=T.obj _ _ st7 b hb;exact(I10.pin (b,o) (zQ _ (zQ _ (wn hb e)))).2.1
   cases ok with
   |true =>
    simp only[if_true]at q9 ⊢;refine yN (he _ _ _ _ _ s9 _ H9 _ I9 q9) (λy ED h10=>?_) λ_ _ e=>e.elim;obtain⟨yv,DL,I10,r10,hD10,m',mE,w10⟩:=h10;refine yN (ci (X:=yg X (own++N) scope cl h2.objs.size { s₂ with heap:=h2 } H3 fp) _ ED _ DL (.ref s₂.heap.objs.size) [yv] (.ref s₂.heap.objs.size) [y] (λv' H'=>H'=upd DL s₂.heap.objs.size (.lst (ys++[yv]))) I10 rfl (.cons r10 .nil) ⟨_,ys,yv,rfl,rfl,hD10,hz,rfl⟩) (λ_ s11 h11=>?_) λ_ _ e=>e.elim;obtain⟨_,H11,I11,_,rfl⟩:=h11;exact ZF _ _ _ m' I11 mE w10
   |false =>
    simp only[Bool.false_eq_true,if_false]at q9 ⊢;obtain⟨m',mE,w10⟩:=q9;exact ZF _ _ _ m' I9 mE w10
 exact codeAny_compStart_list (loop _ rfl) (T.self _ 0 _ _ _ st4 (loop _ rfl))
theorem Lm{pins:List (Addr×Obj)}{σ:St}{H:Hp}{s:Shared}{C:Addr}{VJ:Heap}(I:Inv X pins σ H s)(hC:H C=none)(hL:C≠X.env.locals)(hp:∀p∈X.pn++pins,p.1≠C)(hc:∀y c,X.env.cells.lookup y=some c->c≠C)(h0:X.s₀.heap.objs.size<=C)
  (hs:∀b o,b≠C->s.heap.get? b=some o->VJ.get? b=some o):Inv X pins σ H { s with heap:=VJ } :=
 I.turned (t':=s.toks) hs hC hL (.inr h0) hc hp
theorem Hn{oQ iter tg:Expr}{oJ:List Expr}{ixs:List Nat}{wi:TI}{g:TG}{tt:Addr->Shared->Hp->List Addr->TT}{te:Addr->Shared->Hp->List Addr->TE}{pos:Pos}
  (k:CompOk X own N scope cl) (sN:X.calm=true) (hi:PI X tg iter wi)
  (hg:∀(C:Addr)(s₀:Shared)(H₀:Hp)(ex:List Addr),PG (yg X (own++N) scope cl C s₀ H₀ ex) tg g) (ht:∀(C:Addr)(s₀:Shared)(H₀:Hp)(ex:List Addr),PIf (yg X (own++N) scope cl C s₀ H₀ ex) oJ (tt C s₀ H₀ ex))
  (he:∀(C:Addr)(s₀:Shared)(H₀:Hp)(ex:List Addr),PE (yg X (own++N) scope cl C s₀ H₀ ex) oQ (te C s₀ H₀ ex))
  (hx:ixs.map (λi=>X.N[i]?)=N.map some)
  (hs:∀x,foldedSetIterable iter X.env x=pure x:=by intro _;rfl):PE X (.ListComp oQ [⟨tg,iter,oJ,0⟩] scope pos) (Rj own.length ixs wi g tt te):=by
 intro pins s σ H Q I h;rw[eval_ListComp];refine wpAny_comprehension_free (use:=none) rfl hs k.clos k.kind k.names (thn (hi pins s σ H _ I h) λv s1 h1=>thn h1 λitv s2 h2=>?_);obtain⟨it,fp,tn,J,H2,rfl,I2,T,KR,f2,q⟩:=h2;refine Wd (RR:=λcW C=>compPost (model X.prog X.w) X.A X.xe none (EP X pins σ Q) cW C) k sN (C0 hx) (Gy hx) hg ht he I2 T KR f2 q ?_;intro D C H' s' m J' hn hC hL UW hp hc h0 q';exact⟨m,hn,λVJ GZ=>⟨.ref D,H',Lm J' hC hL hp hc h0 (λb o hb e=>GZ.extBut b o hb e),rfl,q'⟩⟩
def Dm(i:Nat)(t:TE):TS:=λD σ H=>t σ H λx H1=>D.nx (sv σ i x) H1
end
def CN(n i:Nat)(P:Prop):Prop:=∃m':Nat,m'<n-i/\m'=n-(i+1)/\i+1<=n/\P
theorem CN.mk{n i:Nat}{P:Prop}(h:i<n)(p:P):CN n i P:=⟨n-(i+1),by lia,rfl,h,p⟩
theorem ae{τ:St}(h:τ.length=1):∃t,τ=[t]:=by
 match τ,h with
 |[t],_=>exact⟨t,rfl⟩
def mG2(K:W.Frag)(i j:Nat):TG:=λv σ H Q=>∃a x y,v = .ref a/\SqT K H a [x,y]/\Q (sv (sv σ i x) j y) H
def Ya(tt:TT)(te:TE)(σ:St)(D:Addr)(n i:Nat)(ys:List V)(P:List V->Hp->Prop)(H:Hp):Prop :=
 tt σ H λb H4=>if b=true then te σ H4 λy H5=>H5 D=some (.lst ys)/\CN n i (P (ys++[y]) (upd H5 D (.lst (ys++[y]))))else CN n i (P ys H4)
theorem o0{J:It}{n:Nat}{no:Nat}{g:TG}{tt:TT}{te:TE}{ρ:St}{Q:VK}{H1:Hp}(Pv:Addr->Nat->List V->Hp->Prop)(bY:n<=sizeLine)
  (h0:∀D H2,H1 D=none->Same H1 H2->H2 D=some (.lst [])->Pv D 0 [] H2)
  (hl:∀D i ys H,i<=n->Pv D i ys H->H D=some (.lst ys)/\ys.length<=i)
  (hgo:∀D i ys H,i<n->Pv D i ys H->J.go i H) (UG:∀D ys H,Pv D n ys H->J.stop n H)
  (hs:∀D i v ys H H' (τ:St),i<n->τ.length=no->Pv D i ys H->J.yld i H v H'->g v (τ++ρ) H' fun σ2 H3=>(∃τ':St,σ2=τ'++ρ/\τ'.length=no)/\Ya tt te σ2 D n i ys (Pv D (i+1)) H3)
  (hd:∀D ys H,Pv D n ys H->Q (.ref D) H):qf no g tt te ρ J Q H1:=by
 intro D H2 n2 s2 e2;refine⟨λi m ys H=>m=n-i/\i<=n/\Pv D i ys H,⟨n,by simp,yJ _,h0 D H2 n2 s2 e2⟩,?_⟩;rintro i m ys H ⟨rfl,hi,p⟩;obtain⟨eD,ly⟩:=hl D i ys H hi p;refine⟨eD,?_⟩
 by_cases bA:i<n
 ·refine .inr ⟨hgo D i ys H bA p,by lia,fun τ v CT hτ y=>?_⟩;exact hs D i v ys H CT τ bA hτ p y
 ·have e:i=n:=by lia
  subst e;exact .inl ⟨UG D ys H p,hd D ys H p⟩
theorem Sc{K:W.Frag}{a:Addr}{xs:List V}{tt:TT}{te:TE}{ρ:St}{Q:VK}{H1:Hp}(Pv:Addr->Nat->List V->Hp->Prop)(bY:xs.length<=sizeLine)
  (h0:∀D H2,H1 D=none->Same H1 H2->H2 D=some (.lst [])->Pv D 0 [] H2)
  (hl:∀D i ys H,Pv D i ys H->SqT K H a xs/\H D=some (.lst ys)/\ys.length<=i)
  (hs:∀D i v ys H,xs[i]?=some v->Pv D i ys H->Ya tt te (some v :: ρ) D xs.length i ys (Pv D (i+1)) H)
  (hd:∀D ys H,Pv D xs.length ys H->Q (.ref D) H):qf 1 (mG 0) tt te ρ (Itt K a) Q H1 :=
 o0 Pv bY h0 (λD i ys H _ p=>(hl D i ys H p).2) (λD i ys H hi p=>⟨xs,xs[i],(hl D i ys H p).1,by simp[hi]⟩) (λD ys H p=>⟨xs,(hl D _ ys H p).1,zT _⟩) (λD i v ys H H' τ hi hτ p y=>by
  obtain⟨t,rfl⟩:=ae hτ;obtain⟨e,y⟩:=y;subst e;exact⟨⟨[some v],rfl,rfl⟩,hs D i v ys _ (y xs (hl D i ys _ p).1) p⟩) hd
theorem Sb{K:W.Frag}{a:Addr}{xs:List V}{tt:TT}{te:TE}{ρ:St}{Q:VK}{H1:Hp}(Pv:Addr->Nat->List V->Hp->Prop)(bY:xs.length<=sizeLine)
  (h0:∀D H2,H1 D=none->Same H1 H2->H2 D=some (.lst [])->Pv D 0 [] H2)
  (hl:∀D i ys H,Pv D i ys H->SqL K H a xs/\H D=some (.lst ys)/\ys.length<=i)
  (hs:∀D i v ys H,xs[i]?=some v->Pv D i ys H->Ya tt te (some v :: ρ) D xs.length i ys (Pv D (i+1)) H)
  (hd:∀D ys H,Pv D xs.length ys H->Q (.ref D) H):qf 1 (mG 0) tt te ρ (Itl K a) Q H1 :=
 o0 Pv bY h0 (λD i ys H _ p=>(hl D i ys H p).2) (λD i ys H hi p=>⟨xs,xs[i],(hl D i ys H p).1,by simp[hi]⟩) (λD ys H p=>⟨xs,(hl D _ ys H p).1,zT _⟩) (λD i v ys H H' τ hi hτ p y=>by
  obtain⟨t,rfl⟩:=ae hτ;obtain⟨e,y⟩:=y;subst e;exact⟨⟨[some v],rfl,rfl⟩,hs D i v ys _ (y xs (hl D i ys _ p).1) p⟩) hd
theorem Yf{lo:Int}{n:Nat}{tt:TT}{te:TE}{ρ:St}{Q:VK}{H1:Hp}(Pv:Addr->Nat->List V->Hp->Prop)(bY:n<=sizeLine)
  (h0:∀D H2,H1 D=none->Same H1 H2->H2 D=some (.lst [])->Pv D 0 [] H2)
  (hl:∀D i ys H,Pv D i ys H->H D=some (.lst ys)/\ys.length<=i)
  (hs:∀D i ys H,i<n->Pv D i ys H->Ya tt te (some (.int (lo+i)) :: ρ) D n i ys (Pv D (i+1)) H)
  (hd:∀D ys H,Pv D n ys H->Q (.ref D) H):qf 1 (mG 0) tt te ρ (Itr lo n) Q H1 :=
 o0 Pv bY h0 (λD i ys H _ p=>hl D i ys H p) (λD i ys H hi p=>hi) (λD ys H p=>zT _) (λD i v ys H H' τ hi hτ p y=>by
  obtain⟨t,rfl⟩:=ae hτ;obtain⟨e,y⟩:=y;subst e y;exact⟨⟨[_],rfl,rfl⟩,hs D i ys _ hi p⟩) hd
theorem fo{K:W.Frag}{a:Addr}{xs:List V}{te:TE}{ρ:St}{Q:VK}{H1:Hp}(Pv:Addr->Nat->List V->Hp->Prop)(bY:xs.length<=sizeLine)
  (h0:∀D H2,H1 D=none->Same H1 H2->H2 D=some (.lst [])->Pv D 0 [] H2)
  (hl:∀D i ys H,Pv D i ys H->SqT K H a xs/\H D=some (.lst ys)/\ys.length=i)
  (hs:∀D i v ys H,xs[i]?=some v->Pv D i ys H->te (some v :: ρ) H λy H3=>H3 D=some (.lst ys)/\CN xs.length i (Pv D (i+1) (ys++[y]) (upd H3 D (.lst (ys++[y])))))
  (hd:∀D ys H,Pv D xs.length ys H->Q (.ref D) H):qf 1 (mG 0) dr te ρ (Itt K a) Q H1:=Sc Pv bY h0 (λD i ys H p=>let⟨a1,a2,a3⟩:=hl D i ys H p;⟨a1,a2,uH a3⟩) hs hd
theorem Yg{K:W.Frag}{a:Addr}{xs:List V}{te:TE}{ρ:St}{Q:VK}{H1:Hp}(Pv:Addr->Nat->List V->Hp->Prop)(bY:xs.length<=sizeLine)
  (h0:∀D H2,H1 D=none->Same H1 H2->H2 D=some (.lst [])->Pv D 0 [] H2)
  (hl:∀D i ys H,Pv D i ys H->SqL K H a xs/\H D=some (.lst ys)/\ys.length=i)
  (hs:∀D i v ys H,xs[i]?=some v->Pv D i ys H->te (some v :: ρ) H λy H3=>H3 D=some (.lst ys)/\CN xs.length i (Pv D (i+1) (ys++[y]) (upd H3 D (.lst (ys++[y])))))
  (hd:∀D ys H,Pv D xs.length ys H->Q (.ref D) H):qf 1 (mG 0) dr te ρ (Itl K a) Q H1:=Sb Pv bY h0 (λD i ys H p=>let⟨a1,a2,a3⟩:=hl D i ys H p;⟨a1,a2,uH a3⟩) hs hd
theorem pq{lo:Int}{n:Nat}{te:TE}{ρ:St}{Q:VK}{H1:Hp}(Pv:Addr->Nat->List V->Hp->Prop)(bY:n<=sizeLine)
  (h0:∀D H2,H1 D=none->Same H1 H2->H2 D=some (.lst [])->Pv D 0 [] H2)
  (hl:∀D i ys H,Pv D i ys H->H D=some (.lst ys)/\ys.length=i)
  (hs:∀D i ys H,i<n->Pv D i ys H->te (some (.int (lo+i)) :: ρ) H λy H3=>H3 D=some (.lst ys)/\CN n i (Pv D (i+1) (ys++[y]) (upd H3 D (.lst (ys++[y])))))
  (hd:∀D ys H,Pv D n ys H->Q (.ref D) H):qf 1 (mG 0) dr te ρ (Itr lo n) Q H1:=Yf Pv bY h0 (λD i ys H p=>let⟨a1,a2⟩:=hl D i ys H p;⟨a1,uH a2⟩) hs hd
section
variable {X:Cx}{N:List Str}{scope:Scope}{cl:List (Str×Addr)}
theorem Ms{x:Str}{px:Pos}(k:CompOk X [x] N scope cl)(C:Addr)(s₀:Shared)(H₀:Hp)(ex:List Addr):PG (yg X ([x]++N) scope cl C s₀ H₀ ex) (.Name x px) (mG 0) :=
 ve 0 k.nd rfl (.inl (lookup_relabel_local (k.mine x (zX.mpr rfl)))) (.inr (lookup_relabel_local (k.mine x (zX.mpr rfl))))
end
section
variable {X:Cx}
theorem Kr(i j:Nat){x y:Str}{p p' pos:Pos}{k:Nat}(hc:X.calm=true)(hN:X.N.Nodup)(hi:X.N[i]?=some x:=by rfl)(hj:X.N[j]?=some y:=by rfl)(hx:Loc X.env.scope x:=by first|exact Or.inl rfl|exact Or.inr rfl)(hy:Loc X.env.scope y:=by first|exact Or.inl rfl|exact Or.inr rfl)
  (hf:X.fn x=true\/X.env.scope.names.lookup x=some .local:=by first|exact .inl rfl|exact .inr rfl) (UY:X.fn y=true\/X.env.scope.names.lookup y=some .local:=by first|exact .inl rfl|exact .inr rfl)
  (hn:(assignEach [.Name x p,.Name y p'] X.env).length=2:=by rfl) (gY:(assignEach [.Name x p,.Name y p'] X.env).findIdx? (·.1)=none:=by rfl)
  (hs:(assignEach [.Name x p,.Name y p'] X.env).map (·.2)=assign (.Name x p) X.env::(assignEach [.Name y p'] X.env).map (·.2):=by rfl) (CL:(assignEach [.Name y p'] X.env).map (·.2)=assign (.Name y p') X.env::(assignEach [] X.env).map (·.2):=by rfl) :
  PG X (.Tuple [.Name x p,.Name y p'] k pos) (mG2 X.K i j):=by
 intro pins s σ H v u Q I r h;obtain⟨a,x1,y1,rfl,hq,q⟩:=h;exact Iq hc (vq (ve i hN hi hx hf) (vq (ve j hN hj hy UY) af CL) hs) hn gY pins s σ H _ u Q I r ⟨a,_,rfl,hq,rfl,x1,_,rfl,y1,_,rfl,rfl,q⟩
variable {N:List Str}{scope:Scope}{cl:List (Str×Addr)}{oQ iter:Expr}{oJ:List Expr}{ixs:List Nat}{wi:TI}{tt:Addr->Shared->Hp->List Addr->TT}{te:Addr->Shared->Hp->List Addr->TE}{pos px py pp spos pt:Pos}{x y z:Str}{kk:Nat}
theorem vx(k:CompOk X [x] N scope cl)(hc:X.calm=true)(hi:PI X (.Name x px) iter wi)(ht:∀(C:Addr)(s₀:Shared)(H₀:Hp)(ex:List Addr),PIf (yg X ([x]++N) scope cl C s₀ H₀ ex) oJ (tt C s₀ H₀ ex))
  (he:∀(C:Addr)(s₀:Shared)(H₀:Hp)(ex:List Addr),PE (yg X ([x]++N) scope cl C s₀ H₀ ex) oQ (te C s₀ H₀ ex)) (hx:ixs.map (λi=>X.N[i]?)=N.map some) (hs:∀x,foldedSetIterable iter X.env x=pure x:=by intro _;rfl) :
  PE X (.ListComp oQ [⟨.Name x px,iter,oJ,0⟩] scope pos) (Rj 1 ixs wi (mG 0) tt te):=Hn k hc hi (Ms k) ht he hx hs
end
end My
namespace My
open PySem PySem.Spec L2
open PyProof.Rows hiding St
section
variable {X:Cx}
theorem wv:∀{bs:List Bool}{us:List Value},Vals (bs.map V.bl) us->us=bs.map Value.bool
 |[],us,r=>by cases r;rfl
 |b::bs,us,r=>by
  rw[List.map_cons]at r;cases r with
  |cons r1 r2 =>
   have e:_=Value.bool b:=r1;rw[e,wv r2]
   rfl
theorem Ob{bs:List Bool}{i:Nat}(hi:i<bs.length)(h:∀j,j<=bs.length-1->b2i (bs.getD i false)<=b2i (bs.getD j false)):bs.getD i false=bs.all id:=by
 cases e:bs.all id with
 |true =>
  rw[yS]at e;have:=e (bs[i]) (wC hi);simpa[yK,hi]using this
 |false =>
  rw[List.all_eq_false]at e;obtain⟨x,hx,hn⟩:=e;obtain⟨j,hj,rfl⟩:=List.mem_iff_getElem.mp hx;have h1:=h j (by lia);have e2:bs.getD j false=false:=by simpa[yK,hj]using hn
  rw[e2]at h1;cases e3:bs.getD i false with
  |false=>rfl
  |true=>rw[e3]at h1;exact absurd h1 (by decide)
theorem Oc{bs:List Bool}{i:Nat}(hi:i<bs.length)(h:∀j,j<=bs.length-1->b2i (bs.getD j false)<=b2i (bs.getD i false)):bs.getD i false=bs.any id:=by
 cases e:bs.any id with
 |false =>
  rw[List.any_eq_false]at e;have:=e (bs[i]) (wC hi);simpa[yK,hi]using this
 |true =>
  rw[wX]at e;obtain⟨x,hx,hn⟩:=e;obtain⟨j,hj,rfl⟩:=List.mem_iff_getElem.mp hx;have h1:=h j (by lia);have e2:bs.getD j false=true:=by simpa[yK,hj]using hn
  rw[e2]at h1;cases e3:bs.getD i false with
  |true=>rfl
  |false=>rw[e3]at h1;exact absurd h1 (by decide)
def mMM(gi:Int->Int->Int)(gb:List Bool->Bool)(K:W.Frag):List V->Hp->VK->Prop:=λxs H Q=>match xs with
 |[.int i,.int j]=>Q (.int (gi i j)) H
 |[.ref p]=>∃bs:List Bool,SqL K H p (bs.map V.bl)/\0<bs.length/\Q (.bl (gb bs)) H
 |_=>False
theorem Dw(hc:X.calm=true):vf X (.builtin "min") (mMM (λi j=>if j<i then j else i) (λbs=>bs.all id) X.K):=by
 intro pins s σ H xs us Q I r h
 match xs,h with
 |[.int i,.int j],h=>exact R9 hc pins s σ H _ us Q I r ⟨i,j,rfl,h⟩
 |[.ref p],h =>
  obtain⟨bs,hq,iF,q⟩:=(show∃bs:List Bool,SqL X.K H p (bs.map V.bl)/\0<bs.length/\Q (.bl (bs.all id)) H from h)
  obtain⟨u,rfl,rx⟩:=qk r;cases rx;obtain⟨aJ,rv,pl,hz⟩:=I.list hq;have e:=wv rv;subst e;have bA:p<s.heap.objs.size:=by obtain⟨o,e,_⟩:=pl.isList;exact zU e
  refine call_min_walk (vR pl.isList ?_);refine⟨s.heap.objs.size,_,_,_,_,_,λi j=>decide (b2i (bs.getD i false)<b2i (bs.getD j false)),rfl,Walks.list (A:=X.A.in1) (I.ok.hd hc) _ p (zC bA) (bs.map Value.bool).toArray,⟨⟨_,zS _ rfl,rfl,rfl⟩,pl.isList.push _⟩,λb hb=>?_,by simpa using iF,?_,λv h' tk hP hk=>?_⟩
  ·show b<(s.heap.push _).objs.size;rw[xK];rcases zL.mp hb with rfl|hb
   ·exact xF _
   ·rw[zX.mp hb];exact vQ bA
  ·intro i j vi vj s' Q' E' hi hj hQ;have ei:vi = .bool (bs.getD i false):=by
    have:(bs[i]?).map Value.bool=some vi:=by simpa using hi
    cases e:bs[i]? with
    |none=>rw[e]at this;cases this
    |some b=>rw[e]at this;rw[yK,e];exact(yT this).symm
   have ej:vj = .bool (bs.getD j false):=by
    have:(bs[j]?).map Value.bool=some vj:=by simpa using hj
    cases e:bs[j]? with
    |none=>rw[e]at this;cases this
    |some b=>rw[e]at this;rw[yK,e];exact(yT this).symm
   subst ei ej;exact lt_bool hQ
  ·obtain⟨h1,h2⟩:=argBest_lt (λi=>b2i (bs.getD i false)) ((bs.map Value.bool).toArray.size-1);have bY:(bs.map Value.bool).toArray.size=bs.length:=by simp
   rw[bY]at h1 h2 hP;have hb:=Ob (bs:=bs) (i:=argBest (λi j=>decide (b2i (bs.getD i false)<b2i (bs.getD j false))) (bs.length-1)) (by lia) (λj hj=>h2 j hj);have ev:v = .bool (bs.all id):=by
    have h3:(bs[argBest (λi j=>decide (b2i (bs.getD i false)<b2i (bs.getD j false))) (bs.length-1)]?).map Value.bool=some v:=by simpa using hP
    rw[yK]at hb;cases e:bs[argBest (λi j=>decide (b2i (bs.getD i false)<b2i (bs.getD j false))) (bs.length-1)]? with
    |none=>rw[e]at h3;cases h3
    |some b=>rw[e]at h3 hb;rw[<-hb];exact(yT h3).symm
   subst ev;refine⟨.bl (bs.all id),H,?_,rfl,q⟩;exact I.kept λb o e=>hk b o (λz=>absurd (zU e) (by rw[zX.mp z];exact wY _)) (zY _ e)
theorem Dv(hc:X.calm=true):vf X (.builtin "max") (mMM (λi j=>if j>i then j else i) (λbs=>bs.any id) X.K):=by
 intro pins s σ H xs us Q I r h
 match xs,h with
 |[.int i,.int j],h=>exact R8 hc pins s σ H _ us Q I r ⟨i,j,rfl,h⟩
 |[.ref p],h =>
  obtain⟨bs,hq,iF,q⟩:=(show∃bs:List Bool,SqL X.K H p (bs.map V.bl)/\0<bs.length/\Q (.bl (bs.any id)) H from h)
  obtain⟨u,rfl,rx⟩:=qk r;cases rx;obtain⟨aJ,rv,pl,hz⟩:=I.list hq;have e:=wv rv;subst e;have bA:p<s.heap.objs.size:=by obtain⟨o,e,_⟩:=pl.isList;exact zU e
  refine call_max_walk (vR pl.isList ?_);refine⟨s.heap.objs.size,_,_,_,_,_,λi j=>decide (b2i (bs.getD i false)>b2i (bs.getD j false)),rfl,Walks.list (A:=X.A.in1) (I.ok.hd hc) _ p (zC bA) (bs.map Value.bool).toArray,⟨⟨_,zS _ rfl,rfl,rfl⟩,pl.isList.push _⟩,λb hb=>?_,by simpa using iF,?_,λv h' tk hP hk=>?_⟩
  ·show b<(s.heap.push _).objs.size;rw[xK];rcases zL.mp hb with rfl|hb
   ·exact xF _
   ·rw[zX.mp hb];exact vQ bA
  ·intro i j vi vj s' Q' E' hi hj hQ;have ei:vi = .bool (bs.getD i false):=by
    have:(bs[i]?).map Value.bool=some vi:=by simpa using hi
    cases e:bs[i]? with
    |none=>rw[e]at this;cases this
    |some b=>rw[e]at this;rw[yK,e];exact(yT this).symm
   have ej:vj = .bool (bs.getD j false):=by
    have:(bs[j]?).map Value.bool=some vj:=by simpa using hj
    cases e:bs[j]? with
    |none=>rw[e]at this;cases this
    |some b=>rw[e]at this;rw[yK,e];exact(yT this).symm
   subst ei ej;exact gt_bool hQ
  ·obtain⟨h1,h2⟩:=argBest_gt (λi=>b2i (bs.getD i false)) ((bs.map Value.bool).toArray.size-1);have bY:(bs.map Value.bool).toArray.size=bs.length:=by simp
   rw[bY]at h1 h2 hP;have hb:=Oc (bs:=bs) (i:=argBest (λi j=>decide (b2i (bs.getD i false)>b2i (bs.getD j false))) (bs.length-1)) (by lia) (λj hj=>h2 j hj);have ev:v = .bool (bs.any id):=by
    have h3:(bs[argBest (λi j=>decide (b2i (bs.getD i false)>b2i (bs.getD j false))) (bs.length-1)]?).map Value.bool=some v:=by simpa using hP
    rw[yK]at hb;cases e:bs[argBest (λi j=>decide (b2i (bs.getD i false)>b2i (bs.getD j false))) (bs.length-1)]? with
    |none=>rw[e]at h3;cases h3
    |some b=>rw[e]at h3 hb;rw[<-hb];exact(yT h3).symm
   subst ev;refine⟨.bl (bs.any id),H,?_,rfl,q⟩;exact I.kept λb o e=>hk b o (λz=>absurd (zU e) (by rw[zX.mp z];exact wY _)) (zY _ e)
theorem E2{gi:Int->Int->Int}{gb:List Bool->Bool}{K:W.Frag}{H:Hp}{Q:VK}{i j:Int}:mMM gi gb K [.int i,.int j] H Q=Q (.int (gi i j)) H:=rfl
theorem E3{gi:Int->Int->Int}{gb:List Bool->Bool}{K:W.Frag}{H:Hp}{Q:VK}{p:Addr}:mMM gi gb K [.ref p] H Q=(∃bs:List Bool,SqL K H p (bs.map V.bl)/\0<bs.length/\Q (.bl (gb bs)) H):=rfl
theorem dy:∀{ss:List Str}{us:List Value},Vals (ss.map V.str) us->StrsAre us ss
 |[],us,r=>by cases r;exact .nil
 |x::ss,us,r=>by
  rw[List.map_cons]at r;cases r with
  |cons r1 r2 =>
   obtain⟨t,rfl⟩:=r1;exact .cons x t (dy r2)
theorem dj:∀{us:List Value}{ss:List Str},StrsAre us ss->Vals (ss.map V.str) us
 |_,_,.nil=>.nil
 |_,_,.cons x t h=>.cons ⟨t,rfl⟩ (dj h)
end
end My
namespace My
open PySem PySem.Spec L2
open PyProof.Rows hiding St
theorem yp:bootBuiltins "len"=some (.builtin "len"):=by decide +kernel
theorem Go:bootBuiltins "max"=some (.builtin "max"):=by decide +kernel
theorem Gp:bootBuiltins "min"=some (.builtin "min"):=by decide +kernel
theorem R5:bootBuiltins "sorted"=some (.builtin "sorted"):=by decide +kernel
theorem zo:bootBuiltins "isinstance"=some (.builtin "isinstance"):=by decide +kernel
theorem Ur:bootBuiltins "list"=some (.type "list"):=by decide +kernel
theorem xn:bootBuiltins "tuple"=some (.type "tuple"):=by decide +kernel
theorem Gq:bootBuiltins "set"=some (.type "set"):=by decide +kernel
theorem Oe:bootBuiltins "int"=some (.type "int"):=by decide +kernel
theorem lu:bootBuiltins "bool"=some (.type "bool"):=by decide +kernel
theorem w01:decide (Str.ofString "letter"=Str.ofString "not")=false:=by decide +kernel
theorem w02:decide (Str.ofString "letter"=Str.ofString "and")=false:=by decide +kernel
theorem w03:decide (Str.ofString "letter"=Str.ofString "or")=false:=by decide +kernel
theorem w04:decide (Str.ofString "letter"=Str.ofString "if")=false:=by decide +kernel
theorem w10:decide (Str.ofString "not"=Str.ofString "letter")=false:=by decide +kernel
theorem w12:decide (Str.ofString "not"=Str.ofString "and")=false:=by decide +kernel
theorem w13:decide (Str.ofString "not"=Str.ofString "or")=false:=by decide +kernel
theorem w14:decide (Str.ofString "not"=Str.ofString "if")=false:=by decide +kernel
theorem w20:decide (Str.ofString "and"=Str.ofString "letter")=false:=by decide +kernel
theorem w21:decide (Str.ofString "and"=Str.ofString "not")=false:=by decide +kernel
theorem w23:decide (Str.ofString "and"=Str.ofString "or")=false:=by decide +kernel
theorem w24:decide (Str.ofString "and"=Str.ofString "if")=false:=by decide +kernel
theorem w30:decide (Str.ofString "or"=Str.ofString "letter")=false:=by decide +kernel
theorem w31:decide (Str.ofString "or"=Str.ofString "not")=false:=by decide +kernel
theorem w32:decide (Str.ofString "or"=Str.ofString "and")=false:=by decide +kernel
theorem w34:decide (Str.ofString "or"=Str.ofString "if")=false:=by decide +kernel
theorem w40:decide (Str.ofString "if"=Str.ofString "letter")=false:=by decide +kernel
theorem w41:decide (Str.ofString "if"=Str.ofString "not")=false:=by decide +kernel
theorem w42:decide (Str.ofString "if"=Str.ofString "and")=false:=by decide +kernel
theorem w43:decide (Str.ofString "if"=Str.ofString "or")=false:=by decide +kernel
inductive Op2|con|dis|imp
def Op2.word:Op2->Str
 | .con=>"and"
 | .dis=>"or"
 | .imp=>"if"
def Op2.so:Op2->Bool->Bool->Bool
 | .con,a,b=>a&&b
 | .dis,a,b=>a||b
 | .imp,a,b=>!a||b
inductive Say
 |letter (x:Str)
 |neg (s:Say)
 |bin (o:Op2) (s t:Say)
def Say.pieces:Say->Nat
 | .letter _=>1
 | .neg s=>s.pieces+1
 | .bin _ s t=>s.pieces+t.pieces+1
theorem Say.pieces_pos:∀s:Say,0<s.pieces
 | .letter _=>Nat.one_pos
 | .neg _=>uF _
 | .bin _ _ _=>uF _
def Say.letters:Say->List Str
 | .letter x=>[x]
 | .neg s=>s.letters
 | .bin _ s t=>s.letters++t.letters
def Say.so(hs:List Str):Say->Bool
 | .letter x=>hs.any λy=>y==x
 | .neg s=>!s.so hs
 | .bin o s t=>o.so (s.so hs) (t.so hs)
def SayAt(K:W.Frag)(H:Hp):V->Say->Prop
 |v,.letter x=>∃a,v = .ref a/\SqT K H a [.str "letter",.str x]
 |v,.neg s=>∃a u,v = .ref a/\SqT K H a [.str "not",u]/\SayAt K H u s
 |v,.bin o s t=>∃a u u',v = .ref a/\SqT K H a [.str o.word,u,u']/\SayAt K H u s/\SayAt K H u' t
theorem SayAt.mono{K:W.Frag}{H H':Hp}(t:Tups H H'):∀{s:Say}{v:V},SayAt K H v s->SayAt K H' v s
 | .letter x,v,⟨a,e,h⟩=>⟨a,e,t.sqT h⟩
 | .neg s,v,⟨a,u,e,h,h1⟩=>⟨a,u,e,t.sqT h,SayAt.mono t h1⟩
 | .bin o s r,v,⟨a,u,u',e,h,h1,h2⟩=>⟨a,u,u',e,t.sqT h,SayAt.mono t h1,SayAt.mono t h2⟩
theorem N8(hs:List Str):(hs.map V.str).all vg=true:=by
 rw[yS];intro x hx;obtain⟨y,_,rfl⟩:=yW.mp hx
 rfl
theorem Z6(x:Str)(hs:List Str):inV (.str x) (hs.map V.str)=hs.any λy=>y==x:=by
 unfold inV;rw[List.any_map]
 rfl
theorem Nh(x:Str):PyData.strOk x=true↔∀c∈x.cps.toList,c<0x110000:=by
 unfold PyData.strOk;rw[<-Array.all_toList,yS];exact⟨λh c hc=>zF (h c hc),λh c hc=>zI (h c hc)⟩
def Nm(x:Str):Prop:=x.length<=20/\PyData.strOk x=true
theorem bt(K:W.Frag)(H:Hp):∀ss:List Str,HasL K H (ss.map V.str) (ss.map PyData.str)
 |[]=>by simp[HasL]
 |x::ss=>by
  have ih:=bt K H ss;rw[List.map_cons,List.map_cons];unfold HasL;exact⟨_,_,rfl,by unfold Has;rfl,ih⟩
theorem rn{d:PyData}(h:SeqAt.shaped d=true):PyData.eqv d d=true:=SeqAt.eqv_refl d (SeqAt.canLay_of_shaped h)
def yb:Int->List Str->List Str
 |_,[]=>[]
 |n,x::r=>if n % 2=1 then x::yb (n / 2) r else yb (n / 2) r
theorem v7{P:Program}{w:World}{K:W.Frag}{mg:Str->Option Value}{base:Heap}{x:Str}{st:Stmt}{ps:List Str}{sp:Sp}(F:Def K mg x st ps)(no:∀vs H Q E,¬sp vs H Q E):zh P w K mg base 0 x ps sp:=by
 obtain⟨f,fd,F,b,hm⟩:=F.ex;exact⟨f,fd,⟨λvs H Q E h=>absurd h (no vs H Q E),λA outer s H args us vs Q E _ _ _ _ h=>absurd h (no vs H Q E)⟩,.all b,F.kp,hm⟩
end My
namespace My
open PySem
namespace Tb
open PySem.SetTable
def av(m:Nat)(p:Probe):Probe :=
 if p.more>0 then{ p with j:=p.j+1,more:=p.more-1 }else
 { p with j:=(leap m p.i p.perturb).1,more:=runEnd m (leap m p.i p.perturb).1-(leap m p.i p.perturb).1,i:=(leap m p.i p.perturb).1,perturb:=(leap m p.i p.perturb).2 }
theorem fg(t:SetTable)(p:Probe):t.advance p=av t.mask p:=rfl
def itr(m:Nat):Nat->Probe->Probe
 |0,p=>p
 |k+1,p=>itr m k (av m p)
theorem lz(m:Nat):∀(a b:Nat)(p:Probe),itr m (a+b) p=itr m b (itr m a p)
 |0,b,p=>by rw[sX];rfl
 |a+1,b,p=>by
  rw[show a+1+b=(a+b)+1 by lia];exact lz m a b (av m p)
theorem fv(m k:Nat)(p:Probe):itr m (k+1) p=av m (itr m k p):=lz m k 1 p
def hd(m i p:Nat):Probe:={ j:=i,more:=runEnd m i-i,i:=i,perturb:=p,dummy:=none }
def st0(m:Nat)(h:Int):Probe:=hd m (bits h % (m+1)) (bits h)
theorem Qv(m:Nat):∀(r j i p:Nat)(d:Option Nat),itr m r { j:=j,more:=r,i:=i,perturb:=p,dummy:=d }={ j:=j+r,more:=0,i:=i,perturb:=p,dummy:=d }
 |0,_,_,_,_=>rfl
 |r+1,j,i,p,d=>by
  show itr m r (av m { j:=j,more:=r+1,i:=i,perturb:=p,dummy:=d })=_;have e:av m { j:=j,more:=r+1,i:=i,perturb:=p,dummy:=d }={ j:=j+1,more:=r,i:=i,perturb:=p,dummy:=d }:=by
   unfold av;simp
  rw[e,Qv m r,show j+1+r=j+(r+1)by lia]
theorem Vj(m i p:Nat):itr m (runEnd m i-i+1) (hd m i p)=hd m (leap m i p).1 (leap m i p).2:=by
 rw[fv];unfold hd;rw[Qv]
 rfl
theorem M7(m i:Nat):runEnd m i-i+1<=10:=by
 unfold runEnd;split<;>lia
def lp(m:Nat):Nat->Nat×Nat->Nat×Nat
 |0,x=>x
 |n+1,x=>lp m n (leap m x.1 x.2)
theorem O9(m:Nat):∀(n:Nat)(x:Nat×Nat),∃k,k<=10*n/\itr m k (hd m x.1 x.2)=hd m (lp m n x).1 (lp m n x).2
 |0,x=>⟨0,zT _,rfl⟩
 |n+1,x=>by
  obtain⟨k,hk,e⟩:=O9 m n (leap m x.1 x.2);refine⟨runEnd m x.1-x.1+1+k,by have:=M7 m x.1;lia,?_⟩;rw[lz,Vj];exact e
theorem Z9(m:Nat):∀(a b:Nat)(x:Nat×Nat),lp m (a+b) x=lp m b (lp m a x)
 |0,b,x=>by rw[sX];rfl
 |a+1,b,x=>by
  rw[show a+1+b=(a+b)+1 by lia];exact Z9 m a b (leap m x.1 x.2)
theorem Wy(m:Nat):∀(n:Nat)(x:Nat×Nat),(lp m n x).2=x.2 / 32 ^ n
 |0,x=>by simp[lp]
 |n+1,x=>by
  show(lp m n (leap m x.1 x.2)).2=_;rw[Wy m n];show x.2 / 32 / 32 ^ n=_;rw[Nat.div_div_eq_div_mul,Nat.pow_succ,Nat.mul_comm]
theorem Uq(h:Int):bits h<2 ^ 64:=by
 unfold bits;have h1:0<=h % (2 ^ 64:Int):=wP _ (by decide);have h2:h % (2 ^ 64:Int)<2 ^ 64:=wZ _ (by decide);lia
def cy(m:Nat):Nat->Nat->Nat
 |0,i=>i
 |n+1,i=>cy m n ((i*5+1) % (m+1))
theorem Z1(m:Nat):∀(a b i:Nat),cy m (a+b) i=cy m b (cy m a i)
 |0,b,i=>by rw[sX];rfl
 |a+1,b,i=>by
  rw[show a+1+b=(a+b)+1 by lia];exact Z1 m a b _
theorem O8(m:Nat):∀(n i:Nat),lp m n (i,0)=(cy m n i,0)
 |0,_=>rfl
 |n+1,i=>by
  show lp m n (leap m i 0)=_;have e:leap m i 0=((i*5+1) % (m+1),0):=by unfold leap;simp
  rw[e,O8 m n]
  rfl
theorem Kl(m:Nat)(n:Nat)(x:Nat×Nat):(lp m (n+1) x).1<=m:=by
 rw[Z9];show(leap m (lp m n x).1 (lp m n x).2).1<=m;unfold leap;exact Nat.le_of_lt_succ (Nat.mod_lt _ (uF m))
def Mk(m:Nat):Prop:=m=7\/m=31\/m=127
def Im(m:Nat):Bool:=(cy m (m+1) 0==0)&&(List.range (m+1)).all λe=>(List.range (m+1)).any λa=>cy m a 0==e
theorem Br:Im 7=true:=by decide +kernel
theorem orb{m:Nat}(hm:Mk m):cy m (m+1) 0=0/\∀e,e<=m->∃a,a<=m/\cy m a 0=e:=by
 have h:Im m=true:=by rcases hm with rfl|rfl|rfl<;>first|exact Br|exact orb31|exact orb127
 unfold Im at h;rw[yY,yS]at h;refine⟨by simpa using h.1,λe he=>?_⟩;have:=h.2 e (xL.mpr (by lia));rw[wX]at this;obtain⟨a,ha,e'⟩:=this;exact⟨a,by have:=xL.mp ha;lia,by simpa using e'⟩
theorem Kj{m:Nat}(hm:Mk m){i e:Nat}(hi:i<=m)(he:e<=m):∃k,k<=m/\cy m k i=e:=by
 obtain⟨h0,h1⟩:=orb hm;obtain⟨a,ha,rfl⟩:=h1 i hi;obtain⟨b,hb,rfl⟩:=h1 e he
 by_cases qG:a<=b
 ·refine⟨b-a,by lia,?_⟩;rw[<-Z1,show a+(b-a)=b by lia]
 ·refine⟨b+(m+1)-a,by lia,?_⟩;rw[<-Z1,show a+(b+(m+1)-a)=(m+1)+b by lia,Z1,h0]
def pos(m:Nat)(h:Int)(k:Nat):Nat:=(itr m k (st0 m h)).j
theorem Fd{m:Nat}(hm:Mk m)(h:Int){e:Nat}(he:e<=m):∃k,k<=10*(m+13)/\pos m h k=e:=by
 have h13:lp m 13 (bits h % (m+1),bits h)=((lp m 13 (bits h % (m+1),bits h)).1,0):=by
  have:(lp m 13 (bits h % (m+1),bits h)).2=0:=by
   rw[Wy];exact Nat.div_eq_of_lt (sY (Uq h) (by decide))
  exact Prod.ext rfl this
 obtain⟨k,hk,ek⟩:=Kj hm (Kl m 12 (bits h % (m+1),bits h)) he;obtain⟨r,hr,er⟩:=O9 m (13+k) (bits h % (m+1),bits h);refine⟨r,by lia,?_⟩;unfold pos st0;rw[er,Z9,h13,O8];exact ek
theorem C3{P:Nat->Prop}:∀n:Nat,P n->∃k,k<=n/\P k/\∀k',k'<k->¬P k':=by
 intro n
 induction n using Nat.strongRecOn with
 |_ n ih =>
  intro h
  by_cases hc:∃k',k'<n/\P k'
  ·obtain⟨k',hk,hp⟩:=hc;obtain⟨k,h1,h2,h3⟩:=ih k' hk hp;exact⟨k,by lia,h2,h3⟩
  ·exact⟨n,zT _,h,λk' hk hp=>hc ⟨k',hk,hp⟩⟩
theorem Xn:∀(n:Nat)(l:List Nat),(∀e,e<n->e∈l)->n<=l.length
 |0,_,_=>yJ _
 |n+1,l,h=>by
  have hn:=h n (xF n);have h1:=Xn n (l.erase n) λe he=>(List.mem_erase_of_ne (by lia)).mpr (h e (by lia));rw[List.length_erase_of_mem hn]at h1;have:=List.length_pos_of_mem hn;lia
theorem Wh{m:Nat}(hm:Mk m)(h:Int){l:List Nat}(hl:l.length<=m):∃K,K<=10*(m+13)/\pos m h K∉l/\∀k,k<K->pos m h k∈l:=by
 have hex:∃e,e<=m/\e∉l:=by
  by_cases hc:∃e,e<=m/\e∉l
  ·exact hc
  ·exfalso;have:=Xn (m+1) l λe he=>xG λhn=>hc ⟨e,by lia,hn⟩;lia
 obtain⟨e,he,hn⟩:=hex;obtain⟨k,hk,ek⟩:=Fd hm h he;obtain⟨K,h1,h2,h3⟩:=C3 (P:=λk=>pos m h k∉l) k (by rw[ek];exact hn);exact⟨K,by lia,h2,λk' iG=>xG λhc=>h3 k' iG hc⟩
theorem qu{l:List Nat}(hr:l.Pairwise (·<·)){i i' d:Nat}(h:i<i')(h':i'<l.length):l.toArray.getD i d<l.toArray.getD i' d:=by
 have:=xZ.mp hr i i' (by lia) h' h;simpa[Array.getD,h',show i<l.length by lia]using this
theorem fk{l:List Nat}(hr:l.Pairwise (·<·))(j:Nat):∀(mI lo hi:Nat),hi<=l.length->lo<=hi->hi-lo<=mI->(∀i,i<lo->l.toArray.getD i j<j)->(∀i,hi<=i->i<l.length->j<=l.toArray.getD i j) ->
  below.go l.toArray j mI lo hi<=l.length/\(∀i,i<below.go l.toArray j mI lo hi->l.toArray.getD i j<j)/\(∀i,below.go l.toArray j mI lo hi<=i->i<l.length->j<=l.toArray.getD i j)
 |0,lo,hi,h1,h2,h3,h4,h5=>by
  unfold below.go;exact⟨by lia,h4,λi Aa=>h5 i (by lia)⟩
 |f+1,lo,hi,h1,h2,h3,h4,h5=>by
  unfold below.go
  by_cases bA:lo<hi
  ·rw[zG bA];dsimp only
   by_cases hc:l.toArray.getD ((lo+hi) / 2) j<j
   ·rw[zG hc];refine fk hr j f _ _ h1 (by lia) (by lia) (λi Aa=>?_) h5
    by_cases e:i=(lo+hi) / 2
    ·rw[e];exact hc
    ·exact sY (qu hr (by lia) (by lia)) hc
   ·rw[zM hc];refine fk hr j f _ _ (by lia) (by lia) (by lia) h4 (λi Aa hl=>?_)
    by_cases e:i=(lo+hi) / 2
    ·rw[e];exact tT.mp hc
    ·exact yQ (tT.mp hc) (xO (qu hr (by lia) hl))
  ·rw[zM bA];exact⟨by lia,h4,λi Aa=>h5 i (by lia)⟩
theorem tj{l:List Nat}(hr:l.Pairwise (·<·))(j:Nat):below l.toArray j<=l.length/\(∀i,i<below l.toArray j->l.toArray.getD i j<j)/\(∀i,below l.toArray j<=i->i<l.length->j<=l.toArray.getD i j):=by
 unfold below;have hs:l.toArray.size=l.length:=zN;rw[hs];exact fk hr j l.length 0 l.length (zT _) (yJ _) (by lia) (λi hi=>by lia) (λi h1 h2=>by lia)
theorem qt{l:List Nat}{i d:Nat}(h:i<l.length):l.toArray.getD i d=l[i]:=by simp[Array.getD,h]
theorem R4{l:List Nat}(hr:l.Pairwise (·<·)){j:Nat}(h:j∈l):l[below l.toArray j]?=some j:=by
 obtain⟨b1,b2,b3⟩:=tj hr j;obtain⟨i,hi,e⟩:=vL h;have h1:¬i<below l.toArray j:=λz=>by
  have:=b2 i z;rw[qt hi,e]at this;lia
 have h2:¬below l.toArray j<i:=λz=>by
  have h3:=b3 (below l.toArray j) (zT _) (by lia);have h4:=qu (d:=j) hr z hi;rw[qt hi,e]at h4;lia
 have:below l.toArray j=i:=by lia
 rw[this,yG hi,e]
theorem V4{l:List Nat}(hr:l.Pairwise (·<·)){j:Nat}:(∀x∈l.take (below l.toArray j),x<j)/\(∀x∈l.drop (below l.toArray j),j<=x):=by
 obtain⟨b1,b2,b3⟩:=tj hr j;constructor
 ·intro x hx;obtain⟨i,hi,e⟩:=vL hx;rw[wD]at hi;have:=b2 i (by lia);rw[qt (by lia)]at this;rw[List.getElem_take]at e;lia
 ·intro x hx;obtain⟨i,hi,e⟩:=vL hx;rw[xY]at hi;have:=b3 (below l.toArray j+i) (by lia) (by lia);rw[qt (by lia)]at this;rw[List.getElem_drop]at e;lia
theorem Ue{l:List Nat}(hr:l.Pairwise (·<·)){j:Nat}(hj:j∉l):(l.take (below l.toArray j)++j::l.drop (below l.toArray j)).Pairwise (·<·):=by
 obtain⟨h1,h2⟩:=V4 hr (j:=j);have hd:∀x∈l.drop (below l.toArray j),j<x:=λx hx=>by
  have:=h2 x hx;have iF:x≠j:=λe=>hj (e▸uR hx);lia
 refine List.pairwise_append.mpr ⟨hr.sublist (List.take_sublist _ _),vF.mpr ⟨hd,hr.sublist (List.drop_sublist _ _)⟩,λa ha b hb=>?_⟩;rcases zL.mp hb with rfl|hb
 ·exact h1 a ha
 ·exact sY (h1 a ha) (hd b hb)
end Tb
end My
namespace My
open PySem
namespace Tb
open PySem.SetTable
structure Rep(L:List (Nat×(Int×Value)))(es:Array (Int×Value))(t:SetTable):Prop where
 es:es=(L.map (·.2)).toArray
 pl:t.place=(L.map (·.1)).toArray
 dm:t.dummies=#[]
 up:(L.map (·.1)).Pairwise (·<·)
 pa:∀x∈L,∃k,pos t.mask x.2.1 k=x.1/\∀k',k'<k->pos t.mask x.2.1 k'∈L.map (·.1)
 mz:Mk t.mask
 fl:L.length<=t.mask
variable {L:List (Nat×(Int×Value))}{es:Array (Int×Value)}{t:SetTable}
theorem Rep.fits(r:Rep L es t):t.fits es.size=true:=by
 unfold SetTable.fits SetTable.fill;rw[r.pl,r.es,r.dm];simpa using r.fl
theorem Rep.odd(r:Rep L es t):t.gaveWay=false:=by
 unfold SetTable.gaveWay;rcases r.mz with e|e|e<;>rw[e]<;>rfl
theorem qv(j:Nat):has #[] j=false:=by unfold has;simp
theorem Rep.slot_live(r:Rep L es t){j:Nat}(h:j∈L.map (·.1)):∃i e,t.slot j = .live i/\L[i]?=some (j,e)/\es[i]?=some e:=by
 have hb:=R4 r.up h;have hp:t.place[below t.place j]?=some j:=by rw[r.pl];simpa using hb
 rw[yI]at hb;cases hx:L[below (L.map (·.1)).toArray j]? with
 |none=>rw[hx]at hb;cases hb
 |some x =>
  rw[hx]at hb;have e1:x.1=j:=by simpa using hb
  refine⟨below t.place j,x.2,?_,?_,?_⟩
  ·unfold SetTable.slot;dsimp only;rw[hp];simp
  ·rw[r.pl,hx,<-e1]
  ·rw[r.es,r.pl];simp[hx]
theorem Rep.slot_free(r:Rep L es t){j:Nat}(h:j∉L.map (·.1)):t.slot j = .empty:=by
 unfold SetTable.slot;dsimp only;have hp:(t.place[below t.place j]?==some j)=false:=by
  rw[xR];intro e;rw[r.pl]at e;exact h (by
   have:=Array.mem_of_getElem? e;simpa using this)
 rw[hp,r.dm,qv];simp
theorem bw(m:Nat):∀(k:Nat)(p:Probe),(itr m k p).dummy=p.dummy
 |0,_=>rfl
 |k+1,p=>by
  rw[itr,bw m k];unfold av;split<;>rfl
theorem Rep.probe_go(r:Rep L es t){hashAt:Nat->Int}(hh:∀i e,es[i]?=some e->hashAt i=e.1)(h:Int){K:Nat}(hK:pos t.mask h K∉L.map (·.1))(hk:∀k,k<K->pos t.mask h k∈L.map (·.1)):∀(mI m:Nat),m<=K->K-m<mI ->
  (probe.go t hashAt h mI (itr t.mask m (st0 t.mask h))=some (.empty (pos t.mask h K) none)/\∀k e,m<=k->k<K->(pos t.mask h k,e)∈L->e.1≠h) \/
  ∃k i v,m<=k/\k<K/\probe.go t hashAt h mI (itr t.mask m (st0 t.mask h))=some (.candidate (pos t.mask h k) i (itr t.mask (k+1) (st0 t.mask h)))/\t.slot (pos t.mask h k) = .live i/\es[i]?=some (h,v)/\(pos t.mask h k,(h,v))∈L/\∀k' e,m<=k'->k'<k->(pos t.mask h k',e)∈L->e.1≠h
 |0,m,hm,hf=>by lia
 |f+1,m,hm,hf=>by
  unfold probe.go;have hj:(itr t.mask m (st0 t.mask h)).j=pos t.mask h m:=rfl;have hd:(itr t.mask m (st0 t.mask h)).dummy=none:=by rw[bw];rfl
  by_cases eK:m=K
  ·subst eK;rw[hj,r.slot_free hK];dsimp only;rw[hd];exact .inl ⟨rfl,λk e h1 h2=>by lia⟩
  ·have bA:m<K:=by lia
   obtain⟨i,el,hs,hL,he⟩:=r.slot_live (hk m bA);rw[hj,hs];dsimp only;have KN:∀e',(pos t.mask h m,e')∈L->e'=el:=λe' JZ=>by
    obtain⟨i',Aa,e2⟩:=vL JZ;have hL':=(zR.mp hL)
    obtain⟨hi,e3⟩:=hL';have:i'=i:=by
     rcases tM i' i with z|z|z
     ·have:=xZ.mp r.up i' i (by simpa using Aa) (by simpa using hi) z;simp[e2,e3]at this
     ·exact z
     ·have:=xZ.mp r.up i i' (by simpa using hi) (by simpa using Aa) z;simp[e2,e3]at this
    subst this;rw[e2]at e3;exact(Prod.mk.inj e3).2
   by_cases hc:(hashAt i==h)=true
   ·rw[zG hc];have HM:el.1=h:=by rw[<-hh i el he];exact eq_of_beq hc
    refine .inr ⟨m,i,el.2,zT _,bA,?_,hs,?_,?_,λk' e h1 h2=>by lia⟩
    ·rw[fg,<-fv]
    ·rw[he,<-HM]
    ·have e5:((h,el.2):Int×Value)=el:=Prod.ext HM.symm rfl;rw[e5];exact zB hL
   ·rw[zM hc,fg,<-fv];have HM:el.1≠h:=λz=>hc (by rw[hh i el he,z];simp);rcases Rep.probe_go r hh h hK hk f (m+1) (by lia) (by lia)with⟨a,b⟩|⟨k,i',v,a1,a2,a3,a4,a5,a6,a7⟩
    ·refine .inl ⟨a,λk e h1 h2 mE=>?_⟩
     by_cases z:k=m
     ·subst z;rw[KN e mE];exact HM
     ·exact b k e (by lia) h2 mE
    ·refine .inr ⟨k,i',v,by lia,a2,a3,a4,a5,a6,λk' e h1 h2 mE=>?_⟩
     by_cases z:k'=m
     ·subst z;rw[KN e mE];exact HM
     ·exact a7 k' e (by lia) h2 mE
theorem pz{α β:Type}(f:α->β)(l:List α)(p:Nat)(x:α):(l.take p++x::l.drop p).map f=(l.map f).take p++f x::(l.map f).drop p:=by simp
theorem qi{α:Type}(l:List α)(p:Nat)(x:α):insertAt l.toArray p x=(l.take p++x::l.drop p).toArray:=by
 apply xE.mp;rw[SetTable.toList_insertAt]
def ins(L:List (Nat×(Int×Value)))(j:Nat)(e:Int×Value):List (Nat×(Int×Value)):=L.take (below (L.map (·.1)).toArray j)++(j,e)::L.drop (below (L.map (·.1)).toArray j)
theorem mem_ins{j:Nat}{e:Int×Value}{x:Nat×(Int×Value)}:x∈ins L j e↔x=(j,e)\/x∈L:=by
 unfold ins;rw[zK,zL];constructor
 ·rintro(h|h|h)
  ·exact .inr (List.mem_of_mem_take h)
  ·exact .inl h
  ·exact .inr (uR h)
 ·rintro(h|h)
  ·exact .inr (.inl h)
  ·have:x∈L.take (below (L.map (·.1)).toArray j)++L.drop (below (L.map (·.1)).toArray j):=by rw[List.take_append_drop];exact h
   rcases zK.mp this with z|z
   ·exact .inl z
   ·exact .inr (.inr z)
theorem Yr(j:Nat)(e:Int×Value):(ins L j e).Perm ((j,e)::L):=by
 unfold ins;refine List.perm_middle.trans ?_;rw[List.take_append_drop]
theorem Rep.put(r:Rep L es t){h:Int}{x:Value}{K:Nat}(hK:pos t.mask h K∉L.map (·.1))(hk:∀k,k<K->pos t.mask h k∈L.map (·.1))(hl:L.length+1<=t.mask):
  Rep (ins L (pos t.mask h K) (h,x)) (insertAt es (t.put (pos t.mask h K)).2 (h,x)) (t.put (pos t.mask h K)).1:=by
 have e1:(t.put (pos t.mask h K)).2=below (L.map (·.1)).toArray (pos t.mask h K):=by unfold SetTable.put;dsimp only;rw[r.pl]
 have e2:(t.put (pos t.mask h K)).1.mask=t.mask:=rfl;refine⟨?_,?_,?_,?_,?_,r.mz,?_⟩
 ·rw[e1,r.es,qi];unfold ins;rw[pz]
 ·unfold SetTable.put;dsimp only;rw[r.pl,qi];unfold ins;rw[pz]
 ·unfold SetTable.put;dsimp only;rw[r.dm,qv];simp
 ·unfold ins;rw[pz];exact Ue r.up hK
 ·intro y hy;rw[e2];have sub:∀j,j∈L.map (·.1)->j∈(ins L (pos t.mask h K) (h,x)).map (·.1):=λj hj=>by
   obtain⟨z,hz,rfl⟩:=yW.mp hj;exact yW.mpr ⟨z,mem_ins.mpr (.inr hz),rfl⟩
  rcases mem_ins.mp hy with rfl|hy
  ·exact⟨K,rfl,λk' iG=>sub _ (hk k' iG)⟩
  ·obtain⟨k,h1,h2⟩:=r.pa y hy;exact⟨k,h1,λk' iG=>sub _ (h2 k' iG)⟩
 ·have:=(Yr (L:=L) (pos t.mask h K) (h,x)).length_eq;rw[this];exact hl
end Tb
end My
namespace My
open PySem
namespace Tb
open PySem.SetTable
theorem c8{m i:Nat}(h:i<=m):runEnd m i<=m:=by unfold runEnd;split<;>lia
theorem oj(m i:Nat):i<=runEnd m i:=by unfold runEnd;split<;>lia
theorem Ou(m:Nat):∀(k:Nat)(p:Probe),p.j+p.more<=m->(itr m k p).j+(itr m k p).more<=m
 |0,_,h=>h
 |k+1,p,h=>by
  refine Ou m k (av m p) ?_;unfold av;split
  ·show p.j+1+(p.more-1)<=m;lia
  ·have h1:(leap m p.i p.perturb).1<=m:=by unfold leap;exact Nat.le_of_lt_succ (Nat.mod_lt _ (uF m))
   have h2:=c8 h1;have h3:=oj m (leap m p.i p.perturb).1;show(leap m p.i p.perturb).1+(runEnd m (leap m p.i p.perturb).1-(leap m p.i p.perturb).1)<=m;lia
theorem Ir(m:Nat)(h:Int)(k:Nat):pos m h k<=m:=by
 have h1:bits h % (m+1)<=m:=Nat.le_of_lt_succ (Nat.mod_lt _ (uF m));have h2:=c8 h1;have h3:=oj m (bits h % (m+1));have:=Ou m k (st0 m h) (by show bits h % (m+1)+(runEnd m (bits h % (m+1))-bits h % (m+1))<=m;lia);unfold pos;lia
theorem kl(m:Nat):∀(k r j i p:Nat)(d:Option Nat),k<=r->(itr m k { j:=j,more:=r,i:=i,perturb:=p,dummy:=d }).j=j+k
 |0,_,_,_,_,_,_=>rfl
 |k+1,r,j,i,p,d,h=>by
  show(itr m k (av m { j:=j,more:=r,i:=i,perturb:=p,dummy:=d })).j=_;have e:av m { j:=j,more:=r,i:=i,perturb:=p,dummy:=d }={ j:=j+1,more:=r-1,i:=i,perturb:=p,dummy:=d }:=by
   unfold av;rw[zG (by show r>0;lia)]
  rw[e,kl m k (r-1) (j+1) i p d (by lia)];lia
theorem Sf{n:Nat}{p:Nat->Bool}(h:(List.range n).find? p=none):∀k,k<n->p k=false:=λk hk=>by
 have:=List.find?_eq_none.mp h k (xL.mpr hk);simpa using this
theorem Sh{n k:Nat}{p:Nat->Bool}(h:(List.range n).find? p=some k):k<n/\p k=true/\∀k',k'<k->p k'=false:=by
 have h1:=List.find?_range_eq_some.mp h;refine⟨by simpa using h1.2.1,h1.1,λk' iG=>by simpa using h1.2.2 k' iG⟩
def fr(o:Array (Option Nat))(j:Nat):Bool:=(o.getD j (some 0)).isNone
theorem bo(m:Nat)(o:Array (Option Nat)):∀(f:Nat)(x:Nat×Nat)(n:Nat),n<f->fr o (lp m n x).1=true ->
  ∃k,layClean.free m o f x.1 x.2=some (itr m k (hd m x.1 x.2)).j/\fr o (itr m k (hd m x.1 x.2)).j=true/\∀k',k'<k->fr o (itr m k' (hd m x.1 x.2)).j=false
 |0,_,_,h,_=>by lia
 |f+1,x,n,hn,HJ=>by
  unfold layClean.free;have hre:=oj m x.1;cases hc:(List.range (runEnd m x.1+1-x.1)).find? λk=>(o.getD (x.1+k) (some 0)).isNone with
  |some k =>
   obtain⟨h1,h2,h3⟩:=Sh hc;have ep:∀k',k'<=k->(itr m k' (hd m x.1 x.2)).j=x.1+k':=λk' iG=>kl m k' _ _ _ _ _ (by lia);refine⟨k,?_,?_,λk' iG=>?_⟩
   ·dsimp only;rw[ep k (zT _)]
   ·rw[ep k (zT _)];exact h2
   ·rw[ep k' (by lia)];exact h3 k' iG
  |none =>
   have h1:=Sf hc;have ep:∀k',k'<=runEnd m x.1-x.1->(itr m k' (hd m x.1 x.2)).j=x.1+k':=λk' iG=>kl m k' _ _ _ _ _ iG;cases n with
   |zero =>
    exfalso;have:=h1 0 (by lia);have h2:fr o x.1=true:=HJ;unfold fr at h2;rw[Nat.add_zero]at this;rw[this]at h2;cases h2
   |succ n =>
    obtain⟨k,e,a1,a2⟩:=bo m o f (leap m x.1 x.2) n (by lia) HJ;have er:∀k',itr m (runEnd m x.1-x.1+1+k') (hd m x.1 x.2)=itr m k' (hd m (leap m x.1 x.2).1 (leap m x.1 x.2).2):=λk'=>by rw[lz,Vj]
    refine⟨runEnd m x.1-x.1+1+k,?_,?_,λk' iG=>?_⟩
    ·rw[er];exact e
    ·rw[er];exact a1
    ·by_cases z:k'<runEnd m x.1-x.1+1
     ·rw[ep k' (by lia)];exact h1 k' (by lia)
     ·have:=a2 (k'-(runEnd m x.1-x.1+1)) (by lia);rw[<-er,show runEnd m x.1-x.1+1+(k'-(runEnd m x.1-x.1+1))=k' by lia]at this;exact this
theorem Qt{m:Nat}(hm:Mk m)(h:Int){e:Nat}(he:e<=m):∃n,n<turns m/\(lp m n (bits h % (m+1),bits h)).1=e:=by
 have h13:lp m 13 (bits h % (m+1),bits h)=((lp m 13 (bits h % (m+1),bits h)).1,0):=by
  have:(lp m 13 (bits h % (m+1),bits h)).2=0:=by
   rw[Wy];exact Nat.div_eq_of_lt (sY (Uq h) (by decide))
  exact Prod.ext rfl this
 obtain⟨k,hk,ek⟩:=Kj hm (Kl m 12 (bits h % (m+1),bits h)) he;refine⟨13+k,by unfold turns;lia,?_⟩;rw[Z9,h13,O8];exact ek
def lv(m:Nat)(o:Array (Option Nat)):List (Nat×Nat):=(List.range (m+1)).filterMap λj=>(o.getD j none).map (j,·)
theorem Yk{α β:Type}{g g':α->Option β}:∀{l:List α},(∀a∈l,g' a=g a)->l.filterMap g'=l.filterMap g
 |[],_=>rfl
 |a::l,h=>by
  rw[yB,yB,h a zD,Yk λb hb=>h b (zO _ hb)]
theorem Uw{β:Type}{g g':Nat->Option β}{j:Nat}{b:β}(hg:g j=none)(UV:g' j=some b)(iF:∀a,a≠j->g' a=g a):∀{l:List Nat},l.Nodup->j∈l->(l.filterMap g').Perm (b::l.filterMap g)
 |[],_,h=>by simp at h
 |a::l,hn,h=>by
  rw[vB]at hn;rw[yB,yB]
  by_cases e:a=j
  ·subst e;rw[hg,UV];dsimp only;rw[Yk λc hc=>iF c λz=>hn.1 (z▸hc)]
  ·rw[iF a e];have hj:j∈l:=by
    rcases zL.mp h with z|z
    ·exact absurd z.symm e
    ·exact z
   have ih:=Uw hg UV iF hn.2 hj;cases g a with
   |none=>exact ih
   |some c=>exact(ih.cons c).trans (.swap _ _ _)
structure Laid(m:Nat)(hs:List Int)(o:Array (Option Nat))(Z:List (Nat×Nat)):Prop where
 sz:o.size=m+1
 pm:(lv m o).Perm Z
 ix:Z.map (·.2)=List.range hs.length
 fr:∀j,fr o j=true↔j<=m/\j∉Z.map (·.1)
 pa:∀z∈Z,∀h,hs[z.2]?=some h->∃k,pos m h k=z.1/\∀k',k'<k->pos m h k'∈Z.map (·.1)
theorem Laid.zero(m:Nat):Laid m [] (Array.replicate (m+1) none) []:=by
 refine⟨by simp,?_,rfl,λj=>?_,λz hz=>by simp at hz⟩
 ·unfold lv;have:(List.range (m+1)).filterMap (λj=>((Array.replicate (m+1) (none:Option Nat)).getD j none).map (j,·))=[]:=by
   rw[List.filterMap_eq_nil_iff];intro j hj;have JW:j<m+1:=xL.mp hj;simp[Array.getD,JW]
  rw[this]
 ·unfold Tb.fr
  by_cases hj:j<m+1
  ·simp[Array.getD,hj];lia
  ·simp[Array.getD,hj];lia
theorem Laid.step{m:Nat}{hs:List Int}{o:Array (Option Nat)}{Z:List (Nat×Nat)}(hm:Mk m)(la:Laid m hs o Z)(h:Int)(hl:hs.length+1<=m):
  ∃j,layClean.free m o (turns m) (bits h % (m+1)) (bits h)=some j/\Laid m (hs++[h]) (o.setIfInBounds j (some hs.length)) (Z++[(j,hs.length)]):=by
 have hZ:Z.length=hs.length:=by
  have:=xH List.length la.ix;simpa using this
 have hex:∃e,e<=m/\e∉Z.map (·.1):=by
  by_cases hc:∃e,e<=m/\e∉Z.map (·.1)
  ·exact hc
  ·exfalso;have:=Xn (m+1) (Z.map (·.1)) λe he=>xG λhn=>hc ⟨e,by lia,hn⟩;rw[zV]at this;lia
 obtain⟨e,he,hen⟩:=hex;obtain⟨n,hn,en⟩:=Qt hm h he;obtain⟨k,e1,e2,e3⟩:=bo m o (turns m) (bits h % (m+1),bits h) n hn (by rw[en];exact(la.fr e).mpr ⟨he,hen⟩);have BN:(itr m k (hd m (bits h % (m+1)) (bits h))).j=pos m h k:=rfl;rw[BN]at e1 e2;obtain⟨j1,j2⟩:=(la.fr _).mp e2;refine⟨pos m h k,e1,?_,?_,?_,λj=>?_,λz hz h' hh=>?_⟩
 ·rw[Array.size_setIfInBounds];exact la.sz
 ·have bA:pos m h k<o.size:=by rw[la.sz];lia
  have UM:o.getD (pos m h k) none=none:=by
   unfold Tb.fr at e2;simp only[Array.getD,bA,dif_pos]at e2 ⊢;simpa using e2
  have key:(lv m (o.setIfInBounds (pos m h k) (some hs.length))).Perm ((pos m h k,hs.length)::lv m o):=by
   unfold lv;refine Uw (j:=pos m h k) ?_ ?_ ?_ List.nodup_range (xL.mpr (by lia))
   ·rw[UM];rfl
   ·have:(o.setIfInBounds (pos m h k) (some hs.length)).getD (pos m h k) none=some hs.length:=by simp[Array.getD,bA]
    rw[this];rfl
   ·intro a ha;have:(o.setIfInBounds (pos m h k) (some hs.length)).getD a none=o.getD a none:=by
     by_cases hz:a<o.size
     ·simp[Array.getD,hz,Array.getElem_setIfInBounds,wU ha]
     ·simp[Array.getD,hz]
    rw[this]
  refine key.trans ((la.pm.cons _).trans ?_);exact(List.perm_append_singleton _ _).symm
 ·rw[yM,la.ix,zE,uX,List.range_succ];rfl
 ·have bA:pos m h k<o.size:=by rw[la.sz];lia
  rw[yM,zK]
  by_cases ej:j=pos m h k
  ·subst ej;have:Tb.fr (o.setIfInBounds (pos m h k) (some hs.length)) (pos m h k)=false:=by unfold Tb.fr;simp[Array.getD,bA]
   rw[this];simp
  ·have:Tb.fr (o.setIfInBounds (pos m h k) (some hs.length)) j=Tb.fr o j:=by
    unfold Tb.fr
    by_cases hz:j<o.size
    ·simp[Array.getD,hz,Array.getElem_setIfInBounds,wU ej]
    ·simp[Array.getD,hz]
   rw[this,la.fr];simp[ej]
 ·have sub:∀q,q∈Z.map (·.1)->q∈(Z++[(pos m h k,hs.length)]).map (·.1):=λq hq=>by rw[yM];exact yU _ hq
  rcases zK.mp hz with hz|hz
  ·have bA:z.2<hs.length:=by
    have:z.2∈Z.map (·.2):=yH hz;rw[la.ix]at this;exact xL.mp this
   rw[wW bA]at hh;obtain⟨k2,a1,a2⟩:=la.pa z hz h' hh;exact⟨k2,a1,λk' iG=>sub _ (a2 k' iG)⟩
  ·rw[zX]at hz;subst hz;have:h'=h:=by simpa using hh.symm
   subst this;refine⟨k,rfl,λk' iG=>sub _ ?_⟩;have hb:=e3 k' iG;have UJ:(itr m k' (hd m (bits h' % (m+1)) (bits h'))).j=pos m h' k':=rfl;rw[UJ]at hb;have ET:pos m h' k'<=m:=Ir m h' k';refine xG λhn=>?_;have:=(la.fr _).mpr ⟨ET,hn⟩;rw[this]at hb;cases hb
end Tb
end My
namespace My
open PySem
namespace Tb
open PySem.SetTable
def Yo(m:Nat)(cW:Option (Array (Option Nat)×Nat))(h:Int):Option (Array (Option Nat)×Nat):=do
 let(owner,k) <-cW
 let j <-layClean.free m owner (turns m) (bits h % (m+1)) (bits h)
 pure (owner.setIfInBounds j (some k),k+1)
theorem Yu(m:Nat)(hs:Array Int):layClean m hs=(hs.foldl (Yo m) (some (Array.replicate (m+1) none,0))).map (·.1):=rfl
theorem bn{m:Nat}(hm:Mk m):∀(rest done:List Int)(o:Array (Option Nat))(Z:List (Nat×Nat)),Laid m done o Z->done.length+rest.length<=m ->
  ∃o' Z',rest.foldl (Yo m) (some (o,done.length))=some (o',(done++rest).length)/\Laid m (done++rest) o' Z'
 |[],done,o,Z,la,_=>⟨o,Z,by simp,by rw[List.append_nil];exact la⟩
 |h::rest,done,o,Z,la,hl=>by
  rw[yL]at hl;obtain⟨j,e,la'⟩:=la.step hm h (by lia);obtain⟨o',Z',e',QB⟩:=bn hm rest (done++[h]) _ _ la' (by rw[zE,uX];lia);refine⟨o',Z',?_,by rw[zJ]at QB;exact QB⟩;rw[List.foldl_cons];have e2:Yo m (some (o,done.length)) h=some (o.setIfInBounds j (some done.length),(done++[h]).length):=by
   unfold Yo;show(layClean.free m o (turns m) (bits h % (m+1)) (bits h)).bind _=_;rw[e];simp
  rw[e2,e',zJ]
  rfl
theorem Yl(es:Array (Int×Value)):∀l:List (Nat×Nat),(∀z∈l,z.2<es.size)->(l.map (·.2)).filterMap (λi=>es[i]?)=l.map λz=>es.getD z.2 (0,Value.none)
 |[],_=>rfl
 |z::l,h=>by
  have hz:=h z zD;rw[List.map_cons,yB,List.map_cons,Yl es l λy hy=>h y (zO _ hy)];have e:es[z.2]?=some (es.getD z.2 (0,Value.none)):=by simp[Array.getD,hz]
  rw[e]
theorem cf(es:Array (Int×Value)):(List.range es.size).map (λk=>es.getD k (0,Value.none))=es.toList:=by
 apply uM
 ·simp
 ·intro i h1 h2;have hi:i<es.size:=by simpa using h1
  simp[Array.getD,hi]
theorem C8(m:Nat)(o:Array (Option Nat)):((lv m o).map (·.1)).Pairwise (·<·):=by
 have e:∀l:List Nat,((l.filterMap λj=>(o.getD j none).map (j,·)).map (·.1))=l.filter λj=>(o.getD j none).isSome:=by
  intro l
  induction l with
  |nil=>rfl
  |cons a l ih =>
   rw[yB,List.filter_cons];cases hg:o.getD a none with
   |none=>simpa using ih
   |some c=>simpa using ih
 unfold lv;rw[e];exact List.Pairwise.sublist List.filter_sublist List.pairwise_lt_range
theorem O2{m:Nat}(hm:Mk m)(es:Array (Int×Value))(hn:es.size<=m)(fi mv:Nat)(led plain:Bool):
  ∃t' order,laid m fi mv led plain (es.map (·.1))=some (t',order)/\t'.mask=m/\t'.led=led/\t'.plain=plain/\∃L',Rep L' (order.filterMap (es[·]?)) t'/\(L'.map (·.2)).Perm es.toList:=by
 obtain⟨o,Z,e,la⟩:=bn hm (es.map (·.1)).toList [] _ _ (Laid.zero m) (by simpa using hn);rw[tX]at e la;have aZ:((es.map (·.1)).toList).length=es.size:=by simp
 have ec:layClean m (es.map (·.1))=some o:=by
  rw[Yu,<-Array.foldl_toList];show Option.map _ (List.foldl (Yo m) (some (Array.replicate (m+1) none,([]:List Int).length)) _)=_;rw[e]
  rfl
 have hv:∀z∈lv m o,z.2<es.size:=λz hz=>by
  have:z.2∈Z.map (·.2):=yH (la.pm.mem_iff.mp hz);rw[la.ix,aZ]at this;exact xL.mp this
 refine⟨_,_,by
  unfold laid;rw[ec]
  rfl,rfl,rfl,rfl,(lv m o).map (λz=>(z.1,es.getD z.2 (0,Value.none))),⟨?_,?_,rfl,?_,?_,hm,?_⟩,?_⟩
 ·show Array.filterMap _ ((lv m o).map (·.2)).toArray=_;apply xE.mp;rw[Array.toList_filterMap];show List.filterMap _ ((lv m o).map (·.2))=_;rw[Yl es _ hv,xT]
  rfl
 ·show((lv m o).map (·.1)).toArray=_;rw[xT]
  rfl
 ·rw[xT];exact C8 m o
 ·intro x hx;obtain⟨z,hz,rfl⟩:=yW.mp hx;have CY:=hv z hz;have hh:((es.map (·.1)).toList)[z.2]?=some (es.getD z.2 (0,Value.none)).1:=by simp[Array.getD,CY]
  obtain⟨k,a1,a2⟩:=la.pa z (la.pm.mem_iff.mp hz) _ hh;refine⟨k,a1,λk' iG=>?_⟩;rw[xT];have:=a2 k' iG;exact(la.pm.map (·.1)).mem_iff.mpr this
 ·have:(lv m o).length=es.size:=by
   rw[la.pm.length_eq];have:=xH List.length la.ix;simpa using this
  rw[zV,this];exact hn
 ·rw[xT];have h1:((lv m o).map λz=>es.getD z.2 (0,Value.none)).Perm (Z.map λz=>es.getD z.2 (0,Value.none)):=la.pm.map _;have h2:(Z.map λz=>es.getD z.2 (0,Value.none))=es.toList:=by
   have:(Z.map λz=>es.getD z.2 (0,Value.none))=(Z.map (·.2)).map λk=>es.getD k (0,Value.none):=by rw[xT];rfl
   rw[this,la.ix,aZ,cf]
  rw[<-h2];exact h1
def oq(L:List (Nat×(Int×Value)))(t:SetTable):Prop:=L.length*5<t.mask*3
theorem Xt{L:List (Nat×(Int×Value))}{es:Array (Int×Value)}{t:SetTable}(r:Rep L es t)(hb:L.length<=76)(h0:(L.length-1)*5<t.mask*3)(h1:t.mask*3<=L.length*5):
  sizeAbove (grown L.length)<=4096/\∃t' order L',t.relaid (es.map (·.1)) (grown L.length)=some (t',order)/\t'.led=t.led/\t'.plain=t.plain/\Rep L' (order.filterMap (es[·]?)) t'/\(L'.map (·.2)).Perm (L.map (·.2))/\oq L' t':=by
 have JX:es.size=L.length:=by rw[r.es];simp
 have key:∀m',Mk m'->L.length<=m'->sizeAbove (grown L.length)-1=m'->L.length*5<m'*3->∃t' order L',t.relaid (es.map (·.1)) (grown L.length)=some (t',order)/\t'.led=t.led/\t'.plain=t.plain/\Rep L' (order.filterMap (es[·]?)) t'/\(L'.map (·.2)).Perm (L.map (·.2))/\oq L' t':=by
  intro m' mE hl hs hr;obtain⟨t',order,e1,e2,e3,e4,L',rp,pm⟩:=O2 mE es (by lia) t.finger (t.movedTo m') t.led t.plain;have el:es.toList=L.map (·.2):=by rw[r.es]
  refine⟨t',order,L',?_,e3,e4,rp,by rw[<-el];exact pm,?_⟩
  ·unfold SetTable.relaid;rw[hs];exact e1
  ·unfold oq;have h5:L'.length=L.length:=by
    have:=pm.length_eq;rw[el]at this;simpa using this
   rw[h5,e2];exact hr
 rcases r.mz with e|e|e
 ·rw[e]at h0 h1;have hL:L.length=5:=by lia
  rw[hL]at key ⊢;exact⟨by decide,key 31 (.inr (.inl rfl)) (by decide) (by decide) (by decide)⟩
 ·rw[e]at h0 h1;have hL:L.length=19:=by lia
  rw[hL]at key ⊢;exact⟨by decide,key 127 (.inr (.inr rfl)) (by decide) (by decide) (by decide)⟩
 ·rw[e]at h0 h1;lia
end Tb
end My
namespace My
open PySem PySem.Spec PySem.W
section
variable {prog:Program}{w:World}{A:Around}{E:Value->Shared->Prop}{s:Shared}
def Sn:Bool->Value->Bool
 |b,.bool c=>c==b
 |_,_=>false
theorem xu{b:Bool}{v:Value}(h:Sn b v=true):v = .bool b:=by
 cases v<;>simp_all [Sn]
theorem Ll{b:Bool}{Q:Int->Shared->Prop}(h:Q (if b=true then 1 else 0) { s with toks:=s.toks+1 }):wpAny (model prog w) A (pyHash (.bool b)) Q E s:=by
 show wpAny _ _ (pyHashByItsType (.bool b)) _ _ _;refine pyHash_slot (T:="bool") rfl F.slot_bool_hash entry_int_hash (args_int_hash _) (beq_builtin_none _) (.inl rfl) ?_;cases b
 ·exact(show wpAny _ _ (do ret (<-mkInt 0)) _ _ s from zZ (wpAny_mkInt (zW ⟨_,_,rfl,h⟩)))
 ·exact(show wpAny _ _ (do ret (<-mkInt 1)) _ _ s from zZ (wpAny_mkInt (zW ⟨_,_,rfl,h⟩)))
def fm(prog:Program)(w:World):PySem.KeyKind prog w Bool where
 is:=Sn
 hash:=λb=>if b=true then 1 else 0
 inj:=λv a b h1 h2=>by
  have e1:=xu h1;have e2:=xu h2;rw[e1]at e2;exact Value.bool.inj e2
 byValue:=λk v h=>by rw[xu h];rfl
 pyHash:=λhv h=>by rw[xu hv];exact Ll h
 eqBool:=λ{A E s a b u v Q} hu hv h=>by
  rw[xu hu,xu hv];refine SeqAt.EqAt.bool_bool a b _ _ _ _ ?_;have e:(a==b)=decide (a=b):=by cases a<;>cases b<;>rfl
  rw[e];exact h
 «strs»:=λk x t v h=>by simp[Sn]at h
abbrev Bt(prog:Program)(w:World)(h:Heap)(k:List Bool)(a:Addr):Prop:=IsTupleKey (fm prog w) h k a
abbrev Bh(prog:Program)(w:World)(k:List Bool):Int:=tupleKeyHash (fm prog w) k
theorem Yc{h:Heap}{k:List Bool}{vs:List Value}(x:ItemsAre (fm prog w) k vs):∀v∈vs,∃b,v = .bool b:=by
 induction x with
 |nil=>intro v hv;simp at hv
 |cons h1 _ ih =>
  intro v hv;rcases zL.mp hv with rfl|hv
  ·exact⟨_,xu h1⟩
  ·exact ih v hv
theorem V6{k:List Bool}{a:Addr}{Q:Bool->Shared->Prop}(hk:Bt prog w s.heap k a)(h:Q true s):wpAny (model prog w) A (hashByValue 8 (.ref a)) Q E s:=by
 have hT:=hk.typeIs;obtain⟨o,aB,n,ho,hc,hd,hi⟩:=hk;unfold hashByValue;refine zZ (wpAny_specialOf hT F.slot_tuple_hash.lookup ?_);show wpAny _ _ (seqItems? (.ref a) >>= _) _ _ s;refine zZ (wQ ho hd ?_);refine zZ ?_;show wpAny _ _ (forIn aB _ _) _ _ s;rw[<-Array.forIn_toList];refine wpAny_forIn_list _ (λrest r s'=>r.1=none/\s'=s/\∀v∈rest,∃b,v = .bool b) _ ?_ ?_ _ _ ⟨rfl,rfl,Yc (h:=s.heap) hi⟩
 ·rintro v rest r s' ⟨hr,rfl,cS⟩;obtain⟨b,rfl⟩:=cS v zD;refine zZ (zW ?_);simp only[Bool.not_true,Bool.false_eq_true,if_false];exact zW ⟨rfl,rfl,λu JS=>cS u (zO _ JS)⟩
 ·rintro⟨r1,r2⟩ s' ⟨hr,rfl,_⟩;simp only at hr;subst hr;exact zW h
theorem Yb{k:List Bool}{a:Addr}{Q:Bool->Shared->Prop}(hk:Bt prog w s.heap k a)(h:Q false s):wpAny (model prog w) A (ofAClassStatement 8 (.ref a)) Q E s:=by
 have hT:=hk.typeIs;obtain⟨o,aB,n,ho,hc,hd,hi⟩:=hk;unfold ofAClassStatement;refine zZ (uG hT ?_);show wpAny _ _ (pure true >>= _) _ _ s;refine zZ (zW ?_);simp only[Bool.not_true,Bool.false_eq_true,if_false];refine zZ (wQ ho hd ?_);refine zZ ?_;show wpAny _ _ (forIn aB _ _) _ _ s;rw[<-Array.forIn_toList];refine wpAny_forIn_list _ (λrest r s'=>r.1=none/\s'=s/\∀v∈rest,∃b,v = .bool b) _ ?_ ?_ _ _ ⟨rfl,rfl,Yc (h:=s.heap) hi⟩
 ·rintro v rest r s' ⟨hr,rfl,cS⟩;obtain⟨b,rfl⟩:=cS v zD;refine zZ (zW ?_);simp only[Bool.false_eq_true,if_false];exact zW ⟨rfl,rfl,λu JS=>cS u (zO _ JS)⟩
 ·rintro⟨r1,r2⟩ s' ⟨hr,rfl,_⟩;simp only at hr;subst hr;exact zW h
theorem R6{k:List Bool}{a:Addr}{ys:List Value}{Q:Bool->Shared->Prop}(hk:Bt prog w s.heap k a)(hy:∀y∈ys,∃k' b,y = .ref b/\Bt prog w s.heap k' b)(h:Q false s):
  wpAny (model prog w) A (searchCouldBeSeen (.ref a) ys) Q E s:=by
 unfold searchCouldBeSeen;refine zZ ?_;refine wpAny_forIn_list _ (λrest r s'=>r.1=none/\s'=s/\∀y∈rest,∃k' b,y = .ref b/\Bt prog w s.heap k' b) _ ?_ ?_ _ _ ⟨rfl,rfl,hy⟩
 ·rintro v rest r s' ⟨hr,rfl,cS⟩;obtain⟨k',b,rfl,hb⟩:=cS v zD;have nx:∀u∈rest,∃k' b,u = .ref b/\Bt prog w s'.heap k' b:=λu JS=>cS u (zO _ JS);dsimp only;split
  ·exact zW ⟨rfl,rfl,nx⟩
  ·refine zZ (wpAny_eqIsQuiet_tuple hk ?_);simp only[Bool.not_true,Bool.false_eq_true,if_false];refine zZ (wpAny_eqIsQuiet_tuple hb ?_);simp only[Bool.not_true,Bool.false_eq_true,if_false];refine zZ (Yb hk ?_);simp only[Bool.false_eq_true,if_false];refine zZ (Yb hb ?_);simp only[Bool.false_eq_true,if_false];exact zW ⟨rfl,rfl,nx⟩
 ·rintro⟨r1,r2⟩ s' ⟨hr,rfl,_⟩;simp only at hr;subst hr;exact zW h
end
end My
namespace My
open PySem PySem.Spec PySem.W
open Tb
section
variable {prog:Program}{w:World}{A:Around}{E:Value->Shared->Prop}{s:Shared}
def Elem(prog:Program)(w:World)(h:Heap)(e:Int×Value)(k:List Bool):Prop:=∃b,e.2 = .ref b/\Bt prog w h k b/\e.1=Bh prog w k
theorem Elem.inj{h:Heap}{e:Int×Value}{k k':List Bool}(x:Elem prog w h e k)(y:Elem prog w h e k'):k=k':=by
 obtain⟨b,e1,h1,_⟩:=x;obtain⟨b',e2,h2,_⟩:=y;rw[e1]at e2;cases e2;exact h1.inj h2
structure Good(prog:Program)(w:World)(h:Heap)(Es:List (Int×Value))(D:List (List Bool)):Prop where
 in1:∀e∈Es,∃k,k∈D/\Elem prog w h e k
 in2:∀k∈D,∃e∈Es,Elem prog w h e k
 one:Es.Pairwise λe e'=>∀k,Elem prog w h e k->¬Elem prog w h e' k
theorem Good.perm{h:Heap}{Es Es':List (Int×Value)}{D:List (List Bool)}(g:Good prog w h Es D)(p:Es'.Perm Es):Good prog w h Es' D :=
 ⟨λe he=>g.in1 e (p.mem_iff.mp he),λk hk=>let⟨e,he,x⟩:=g.in2 k hk;⟨e,p.mem_iff.mpr he,x⟩,(p.pairwise_iff (λ{x y} UE k h1 h2=>UE k h2 h1)).mpr g.one⟩
theorem Bt.mono{h h':Heap}{k:List Bool}{a:Addr}(x:Bt prog w h k a)(hk:∀o,h.get? a=some o->h'.get? a=some o):Bt prog w h' k a:=by
 obtain⟨o,aB,n,ho,r⟩:=x;exact⟨o,aB,n,hk o ho,r⟩
theorem Good.mono{h h':Heap}{Es:List (Int×Value)}{D:List (List Bool)}(g:Good prog w h Es D)(hk:∀a o,o.cls = .type "tuple"->h.get? a=some o->h'.get? a=some o):Good prog w h' Es D:=by
 have up:∀e k,Elem prog w h e k->Elem prog w h' e k:=λe k ⟨b,e1,⟨o,aB,n,ho,hc,r⟩,h2⟩=>⟨b,e1,⟨o,aB,n,hk b o hc ho,hc,r⟩,h2⟩
 refine⟨λe he=>let⟨k,h1,h2⟩:=g.in1 e he;⟨k,h1,up e k h2⟩,λk iG=>let⟨e,h1,h2⟩:=g.in2 k iG;⟨e,h1,up e k h2⟩,?_⟩;refine(xZ.mpr λi j hi hj pL=>?_);intro k h1 h2;obtain⟨k1,_,x1⟩:=g.in1 _ (wC hi);obtain⟨k2,_,x2⟩:=g.in1 _ (wC hj);have e1:=(up _ _ x1).inj h1;have e2:=(up _ _ x2).inj h2;subst e1;subst e2;exact xZ.mp g.one i j hi hj pL _ x1 x2
abbrev y0(es:Array (Int×Value))(ep:Nat)(t:SetTable):Obj:={ cls:=.type "set",dict:=none,data:=.set es ep t,slots:=#[] }
theorem c9(hu:A.units<cLine){S:Addr}{ep:Nat}{es:Array (Int×Value)}{t:SetTable}{L:List (Nat×(Int×Value))}{D:List (List Bool)}(r:Rep L es t)(hS:s.heap.get? S=some (y0 es ep t))(g:Good prog w s.heap (L.map (·.2)) D)
  {x:Addr}{kx:List Bool} (hx:Bt prog w s.heap kx x) {K:Nat} (hK:pos t.mask (Bh prog w kx) K∉L.map (·.1)) (VG:∀k,k<K->pos t.mask (Bh prog w kx) k∈L.map (·.1)) (Kb:K<=10*(t.mask+13)) {Q:SetFound->Shared->Prop}
  (q1:(∃e∈L.map (·.2),Elem prog w s.heap e kx)->Q (.there none) s) (q2:(∀e∈L.map (·.2),¬Elem prog w s.heap e kx)->Q (.free (pos t.mask (Bh prog w kx) K) false) s) :
  ∀(f m:Nat)(sE:Option SetTable.Probe),m<=K->K-m<f->(∀y∈L,∀k,k<m->pos t.mask (Bh prog w kx) k=y.1->¬Elem prog w s.heap y.2 kx)->sE.getD (t.probeStart (Bh prog w kx))=itr t.mask m (st0 t.mask (Bh prog w kx)) ->
   wpAny (model prog w) A (setSearchFrom S (.ref x) (Bh prog w kx) true f sE) Q E s
 |0,m,sE,_,hf,_,_=>by lia
 |f+1,m,sE,hm,hf,oN,est=>by
  unfold setSearchFrom;refine zZ (xI hS rfl r.fits ?_);dsimp only;rw[r.odd];simp only[Bool.false_eq_true,if_false];rw[est];have HA:t.probe (λi=>(es[i]?.map (·.1)).getD 0) (Bh prog w kx) (itr t.mask m (st0 t.mask (Bh prog w kx)))=SetTable.probe.go t (λi=>(es[i]?.map (·.1)).getD 0) (Bh prog w kx) (10*SetTable.turns t.mask) (itr t.mask m (st0 t.mask (Bh prog w kx))):=rfl;have DJ:∀(i:Nat)(e:Int×Value),es[i]?=some e->(λ(i:Nat)=>(es[i]?.map (·.1)).getD 0) i=e.1:=λi e he=>by simp[he]
  have hpg:=r.probe_go DJ (Bh prog w kx) hK VG (10*SetTable.turns t.mask) m hm (by unfold SetTable.turns;lia);rw[<-HA]at hpg;split
  case h_2 BO =>
   exfalso;rcases hpg with⟨e,_⟩|⟨k,i,v,_,_,e,_⟩
   ·exact BO _ e
   ·exact BO _ e
  rename_i met BO;rcases hpg with⟨e,iF⟩|⟨k,i,v,h1,h2,e,EM,JX,hL,iF⟩
  ·have em:=yT (BO.symm.trans e);subst em;dsimp only;refine zW (q2 λel HM hE=>?_);obtain⟨y,hy,rfl⟩:=yW.mp HM;obtain⟨k0,hk0,US⟩:=r.pa y hy;have hh:y.2.1=Bh prog w kx:=by obtain⟨b,_,_,h2⟩:=hE;exact h2
   rw[hh]at hk0 US;have bA:k0<K:=by
    refine xG λhn=>?_
    by_cases e0:k0=K
    ·subst e0;exact hK (by rw[hk0];exact yH hy)
    ·exact hK (US K (by lia))
   by_cases hlm:k0<m
   ·exact oN y hy k0 hlm hk0 hE
   ·exact iF k0 y.2 (by lia) bA (by rw[hk0];exact hy) hh
  ·have em:=yT (BO.symm.trans e);subst em;dsimp only;obtain⟨kb,_,hE⟩:=g.in1 (Bh prog w kx,v) (yW.mpr ⟨_,hL,rfl⟩);obtain⟨b,eb,hb,hbh⟩:=id hE;dsimp only at eb hbh;subst eb;have rest:wpAny (model prog w) A (do
     let some (_,y):=es[i]?|unsupported "internal:set-entry"
     let equal <-holding [y] (eqBool y (.ref x))
     let(eX,_,t') <-setState S
     if true&&equal then return SetFound.there none
     let some sam:=t'.sameMemory t.moves t.mask|unsupported "set.changed-during-lookup:is-the-new-block-at-the-old-address"
     let still <-match(if sam then t'.slot (pos t.mask (Bh prog w kx) k)else .empty)with
      | .live i'=>match eX[i']? with
       |some (_,y')=>do pure (if <-isSame y' y then some i' else none)
       |none=>pure none
      |_=>pure none
     match still with
     |none=>rule "set.search.anew";setSearchFrom S (.ref x) (Bh prog w kx) true f none
     |some i'=>if equal then return SetFound.there (some i')else setSearchFrom S (.ref x) (Bh prog w kx) true f (some (itr t.mask (k+1) (st0 t.mask (Bh prog w kx))))) Q E s:=by
    rw[JX];dsimp only;refine zZ (xD (wpAny_eqBool_tuple hu hb hx ?_));refine zZ (xI hS rfl r.fits ?_);dsimp only
    by_cases hk:kb=kx
    ·rw[zI hk];simp only[Bool.and_self,if_true];exact zW (q1 ⟨(Bh prog w kx,.ref b),yW.mpr ⟨_,hL,rfl⟩,hk▸hE⟩)
    ·rw[yV hk];simp only[uP,Bool.false_eq_true,if_false];have hsm:t.sameMemory t.moves t.mask=some true:=by unfold SetTable.sameMemory;simp
     rw[hsm];dsimp only;simp only[if_true];rw[EM];dsimp only;rw[JX];dsimp only;refine zZ (wpAny_isSame_ref_self (zZ (zW ?_)));simp only[if_true];refine c9 hu r hS g hx hK VG Kb q1 q2 f (k+1) _ (by lia) (by lia) (λy hy k' iG ek' hEy=>?_) rfl;have hh:y.2.1=Bh prog w kx:=by obtain⟨b,_,_,h2⟩:=hEy;exact h2
     by_cases z1:k'<m
     ·exact oN y hy k' z1 ek' hEy
     ·by_cases z2:k'=k
      ·subst z2;obtain⟨i1,e1,s1,L1,s2⟩:=r.slot_live (yH (f:=(·.1)) hy);rw[<-ek',EM]at s1;cases s1;have GV:y.2=e1:=by
        obtain⟨i2,hi2,e2⟩:=vL hy;obtain⟨hi1,e3⟩:=zR.mp L1;have:i2=i:=by
         rcases tM i2 i with z|z|z
         ·have:=xZ.mp r.up i2 i (by simpa using hi2) (by simpa using hi1) z;simp[e2,e3]at this
         ·exact z
         ·have:=xZ.mp r.up i i2 (by simpa using hi1) (by simpa using hi2) z;simp[e2,e3]at this
        subst this;rw[e2]at e3;rw[e3]
       rw[JX]at s2;cases s2;rw[GV]at hEy;exact hk (hE.inj hEy)
      ·exact iF k' y.2 (by lia) (by lia) (by rw[ek'];exact hy) hh
   by_cases iX:t.led=true
   ·rw[iX];simp only[Bool.not_true,Bool.false_eq_true,if_false];exact rest
   ·have BP:t.led=false:=by simpa using iX
    rw[BP];simp only[Bool.not_false,if_true];refine zZ (R6 hx (λy hy=>?_) ?_)
    ·obtain⟨e1,nM,rfl⟩:=yW.mp hy;have EW:e1∈L.map (·.2):=by
      have h3:e1∈es.toList:=by
       have:=(Array.mem_filter.mp (Array.mem_toList_iff.mp nM)).1;exact Array.mem_toList_iff.mpr this
      rw[r.es]at h3;exact h3
     obtain⟨k1,_,b1,eb1,hb1,_⟩:=g.in1 e1 EW;exact⟨k1,b1,eb1,hb1⟩
    ·simp only[Bool.false_eq_true,if_false];exact rest
end
end My
namespace My
open PySem PySem.Spec PySem.W
open Tb
section
variable {prog:Program}{w:World}{A:Around}{E:Value->Shared->Prop}{s:Shared}
theorem rj{S:Addr}{es eX:Array (Int×Value)}{ep:Nat}{t t':SetTable}{Q:Unit->Shared->Prop}(hS:s.heap.get? S=some (y0 es ep t))(hz:eX.size<=sizeLine)
  (h:∀h',h'.get? S=some (y0 eX (ep+1) t')->Heap.SameBut S s.heap h'->Q () { s with heap:=h' }):wpAny (model prog w) A (storeSet S eX t') Q E s:=by
 refine wpAny_storeSet_of hS rfl (h _ ?_ (Heap.SameBut.update s.heap S (Obj.putSet eX t'))) hz;have e:=yC (Obj.putSet eX t') hS (by rfl);exact e
theorem Zc{S:Addr}{es:Array (Int×Value)}{ep:Nat}{t:SetTable}{h h':Heap}(hS:h.get? S=some (y0 es ep t))(sb:Heap.SameBut S h h'):∀a o,o.cls = .type "tuple"->h.get? a=some o->h'.get? a=some o:=λa o hc ho=>by
 have iF:a≠S:=by
  rintro rfl;rw[hS]at ho;cases ho;simp at hc
 exact(sb.2 a iF).trans ho
theorem K9(hu:A.units+1<cLine){S:Addr}{ep:Nat}{es:Array (Int×Value)}{t:SetTable}{L:List (Nat×(Int×Value))}{D:List (List Bool)}(r:Rep L es t)(r5:oq L t)(hb:L.length<76)(hS:s.heap.get? S=some (y0 es ep t))(g:Good prog w s.heap (L.map (·.2)) D)
  {x:Addr}{kx:List Bool} (hx:Bt prog w s.heap kx x) {Q:Bool->Shared->Prop}
  (q:∀(b:Bool)(h':Heap)(tk:Nat)(L':List (Nat×(Int×Value)))(eX:Array (Int×Value))(nV:Nat)(t':SetTable),h'.get? S=some (y0 eX nV t')->Heap.SameBut S s.heap h'->Rep L' eX t'->oq L' t'->t'.led=t.led->t'.plain=t.plain ->
   Good prog w h' (L'.map (·.2)) (D++[kx])->L'.length<=L.length+1->(∀e∈L'.map (·.2),e∈L.map (·.2)\/e.2 = .ref x)->Q b { s with heap:=h',toks:=tk }):wpAny (model prog w) A (setAdd S (.ref x)) Q E s:=by
 unfold setAdd;refine xD (zZ (wpAny_pyHash_tuple (by lia) hx ?_));unfold setAddHashed setAddHashedIn;refine xD (zZ (xI (s:={ s with toks:=s.toks+(kx.length+1) }) hS rfl r.fits ?_));dsimp only;have VC:byScan (.ref x) es=false:=by unfold byScan;rfl
 rw[VC];simp only[Bool.false_eq_true,if_false];have hm:t.mask<=127:=by rcases r.mz with e|e|e<;>rw[e]<;>decide
 obtain⟨K,Kb,hK,VG⟩:=Wh r.mz (Bh prog w kx) (l:=L.map (·.1)) (by rw[zV];exact r.fl);unfold setSearch;refine zZ (c9 (s:={ s with toks:=s.toks+(kx.length+1) }) (by lia) r hS g hx hK VG Kb (λhex=>?_) (λoN=>?_) 100000 0 none (yJ _) (by lia) (λy _ k hk=>absurd hk (Nat.not_lt_zero _)) rfl)
 ·dsimp only;refine zW (q false s.heap _ L es ep t hS (Heap.SameBut.refl S s.heap) r r5 rfl rfl ⟨λe he=>?_,λk hk=>?_,g.one⟩ (wK _) λe he=>.inl he)
  ·obtain⟨k,h1,h2⟩:=g.in1 e he;exact⟨k,yU _ h1,h2⟩
  ·rcases zK.mp hk with hk|hk
   ·exact g.in2 k hk
   ·rw[zX.mp hk];exact hex
 ·dsimp only;refine zZ (xI (s:={ s with toks:=s.toks+(kx.length+1) }) hS rfl r.fits ?_);dsimp only;have HK:es.size=L.length:=by rw[r.es];simp
  have r':=r.put (x:=.ref x) hK VG (by unfold oq at r5;lia);have G':(t.put (pos t.mask (Bh prog w kx) K)).1.plain=t.plain/\(t.put (pos t.mask (Bh prog w kx) K)).1.led=t.led/\(t.put (pos t.mask (Bh prog w kx) K)).1.mask=t.mask:=⟨rfl,rfl,rfl⟩
  generalize hT:t.put (pos t.mask (Bh prog w kx) K)=T at r' G' ⊢;obtain⟨t1,p⟩:=T;dsimp only at r' G' ⊢;obtain⟨dE,hld,hmk⟩:=G';have iE:=Yr (L:=L) (pos t.mask (Bh prog w kx) K) (Bh prog w kx,Value.ref x);generalize hL':ins L (pos t.mask (Bh prog w kx) K) (Bh prog w kx,Value.ref x)=L1 at r' iE;have aZ:L1.length=L.length+1:=by rw[iE.length_eq];rfl
  have bY:(SetTable.insertAt es p (Bh prog w kx,Value.ref x)).size=L1.length:=by rw[r'.es];simp
  have good:∀h',Heap.SameBut S s.heap h'->Good prog w h' (L1.map (·.2)) (D++[kx]):=λh' sb=>by
   refine Good.mono ?_ (Zc hS sb);refine Good.perm (Es:=(Bh prog w kx,Value.ref x)::L.map (·.2)) ⟨λe he=>?_,λk hk=>?_,vF.mpr ⟨λe he k h1 h2=>?_,g.one⟩⟩ (iE.map (·.2))
   ·rcases zL.mp he with rfl|he
    ·exact⟨kx,zQ _ (zX.mpr rfl),x,rfl,hx,rfl⟩
    ·obtain⟨k,h1,h2⟩:=g.in1 e he;exact⟨k,yU _ h1,h2⟩
   ·rcases zK.mp hk with hk|hk
    ·obtain⟨e,h1,h2⟩:=g.in2 k hk;exact⟨e,zO _ h1,h2⟩
    ·rw[zX.mp hk];exact⟨_,zD,x,rfl,hx,rfl⟩
   ·have:k=kx:=h1.inj ⟨x,rfl,hx,rfl⟩;subst this;exact oN e he h2
  have QA:∀e∈L1.map (·.2),e∈L.map (·.2)\/e.2 = .ref x:=λe he=>by
   have:=(iE.map (·.2)).mem_iff.mp he;rcases zL.mp this with z|z
   ·exact .inr (by rw[z])
   ·exact .inl z
  have body:wpAny (model prog w) A (do
    storeSet S (SetTable.insertAt es p (Bh prog w kx,Value.ref x)) t1
    if(!false&&t1.tooFull)=true then do
     setRelay S (SetTable.grown (es.size+1))
     pure true
    else pure true) Q E { s with toks:=s.toks+(kx.length+1) }:=by
   refine zZ (rj (s:={ s with toks:=s.toks+(kx.length+1) }) hS (by rw[bY,yZ];lia) λh1 HS GL=>?_);have htf:t1.tooFull=decide (t1.mask*3<=L1.length*5):=by
    unfold SetTable.tooFull SetTable.fill;rw[r'.pl,r'.dm];simp
   by_cases hfull:t1.mask*3<=L1.length*5
   ·rw[htf,zI hfull];simp only[Bool.not_false,Bool.and_self,if_true];obtain⟨hsa,t2,order,L2,e1,e2,e3,r2,pm,r52⟩:=Xt r' (by lia) (by unfold oq at r5;rw[hmk,aZ];lia) hfull;have hgr:SetTable.grown (es.size+1)=SetTable.grown L1.length:=by rw[HK,aZ]
    rw[hgr];unfold setRelay;refine zZ (zZ (xI (s:={ s with heap:=h1,toks:=s.toks+(kx.length+1) }) HS rfl r'.fits ?_));dsimp only;rw[zM (by rw[yZ];lia),e1];have oM:(order.filterMap ((SetTable.insertAt es p (Bh prog w kx,Value.ref x))[·]?)).size=L1.length:=by
     rw[r2.es];have h6:=pm.length_eq;simpa using h6
    refine zZ (show wpAny _ _ (if((order.filterMap ((SetTable.insertAt es p (Bh prog w kx,Value.ref x))[·]?)).size != (SetTable.insertAt es p (Bh prog w kx,Value.ref x)).size)=true then _ else pure (order.filterMap ((SetTable.insertAt es p (Bh prog w kx,Value.ref x))[·]?),t2)) _ _ _ from ?_);rw[zM (by rw[oM,bY];simp)];refine zW ?_;dsimp only;refine rj (s:={ s with heap:=h1,toks:=s.toks+(kx.length+1) }) HS (by rw[oM,yZ];lia) λh2 hS2 sb2=>?_;refine zW (q true h2 _ L2 _ _ t2 hS2 (GL.trans sb2) r2 r52 (e2.trans hld) (e3.trans dE) ((good h2 (GL.trans sb2)).perm pm) ?_ λe he=>QA e (pm.mem_iff.mp he));have h6:=pm.length_eq;simp at h6;lia
   ·rw[htf,yV hfull];simp only[uP,Bool.false_eq_true,if_false];exact zW (q true h1 _ L1 _ _ t1 HS GL r' (by unfold oq;lia) hld dE (good h1 GL) (by lia) QA)
  split
  ·refine zZ (V6 (s:={ s with toks:=s.toks+(kx.length+1) }) hx ?_);simp only[if_true];exact body
  ·refine zZ (zW ?_);simp only[if_true];exact body
end
end My
namespace My
open PySem PySem.Spec PySem.W
open Tb
section
variable {prog:Program}{w:World}{A:Around}{E:Value->Shared->Prop}{s:Shared}
abbrev byT(w:World):Bool:=w.params.followText "set-order"
abbrev x8(w:World):Obj:=y0 #[] 0 (.fresh 0 0 (!byT w))
theorem Nb(a:Value){Q₁:Value->Shared->Prop}(h:Q₁ (.ref s.heap.objs.size) { s with heap:=s.heap.push (x8 w) }):
  codeAny (model prog w) A (.call (.builtin "set.__new__") ⟨[.type "set",a],[]⟩) (wants Q₁ E) s:=by
 refine codeAny_of_tree (show wpAny _ A.in1 (do checkBuiltinCall "set.__new__" ⟨[.type "set",a],[]⟩;again (.builtin "set.__new__" ⟨[.type "set",a],[]⟩)) _ _ s from ?_);refine zZ (wpAny_of_eq (F.newCall_set_1 a) (zW ⟨sZ F.plain_set_new _,?_⟩));refine uZ F.entry_set_new (by
  rw[vS F.plain_set_new _];unfold Builtin.«set.__new__» Builtin.Frozenset.newClass;have BL:=sub_set_self;obtain⟨hp,g,d,tk,os⟩:=s;dsimp only
  wp_walk
  refine vJ (zW ?_);dsimp only;simp only[newObj];exact zZ (wpAny_alloc (zW (zW h))))
theorem Qy{I S:Addr}{fp wr:List Addr}{n:Nat}{P:Nat->Value->Prop}{St:Nat->Heap->Prop}(W:Walks prog w A.in1 I fp wr n P St)(hSf:S∉fp)(J:Nat->Heap->Prop)(hJ:∀i h h',J i h->(∀b o,b∉wr->h.get? b=some o->h'.get? b=some o)->J i h')
  (CS:∀i v (s':Shared) (Q:Bool->Shared->Prop) (E':Value->Shared->Prop),i<n->P i v->J i s'.heap->(∀b h' tk,Heap.SameBut S s'.heap h'->J (i+1) h'->Q b { s' with heap:=h',toks:=tk })->wpAny (model prog w) A.in1 (setAdd S v) Q E' s')
  {R:Result->Shared->Prop} (h₀:Heap) (hR:∀(s':Shared) h' tk,J n h'->(∀b o,b≠S->b∉wr->h₀.get? b=some o->h'.get? b=some o)->s'={ s with heap:=h',toks:=tk }->R (.ok (.ret .none)) s') :
  ∀(k i:Nat)(h:Heap)(tk:Nat),n-i=k->i<=n->St i h->J i h->(∀b o,b≠S->b∉wr->h₀.get? b=some o->h.get? b=some o)->codeAny (model prog w) A (.builtin "set.update.loop" ⟨[.ref S,.ref I],[]⟩) R { s with heap:=h,toks:=tk }:=by
 intro k
 induction k with
 |zero =>
  intro i h tk hk hi st j keep;have e:i=n:=by lia
  subst e;refine uZ PyProof.Rows.F.entry_set_update_loop ?_;rw[vS wG _];refine(show wpAny _ A.in1 (pyNext (.ref I) >>= _) _ _ _ from zZ (W.done { s with heap:=h,toks:=tk } _ _ st λh' tk' iG=>?_));exact(show wpAny _ A.in1 (ret Value.none) _ _ _ from zW (hR _ h' tk' (hJ _ _ _ j iG) (λb o h1 h2 h3=>iG b o h2 (keep b o h1 h2 h3)) rfl))
 |succ k ih =>
  intro i h tk hk hi st j keep;have bA:i<n:=by lia
  refine uZ PyProof.Rows.F.entry_set_update_loop ?_;rw[vS wG _];refine(show wpAny _ A.in1 (pyNext (.ref I) >>= _) _ _ _ from zZ (W.item i { s with heap:=h,toks:=tk } _ _ bA st λv h' tk' hP iL iG=>?_));refine(show wpAny _ A.in1 (holding [v] (setAdd S v) >>= _) _ _ _ from zZ (xD (CS i v { s with heap:=h',toks:=tk' } _ _ bA hP (hJ _ _ _ j iG) λb VJ tk'' sb j'=>?_)));refine zW ⟨sZ wG _,ih (i+1) VJ tk'' (by lia) bA ?_ j' λb o h1 h2 h3=>?_⟩
  ·exact W.frame _ _ _ iL λb hb o e=>(sb.2 b λz=>hSf (z▸hb)).trans e
  ·exact(sb.2 b h1).trans (iG b o h2 (keep b o h1 h2 h3))
set_option maxHeartbeats 3200000 in
theorem kq{T:String}{l:Addr}{aB:Array Value}{Q:Value->Shared->Prop}(n1:isSubtype (.type T) (.type "set")=pure false)(n2:isSubtype (.type T) (.type "frozenset")=pure false)(n3:(Value.type T==Value.type "dict")=false)(hh:A.handled=none)(ol:Obj)(CM:s.heap.get? l=some ol)(EX:ol.cls = .type T)
  (qY:∀(A':Around)(s':Shared)(E':Value->Shared->Prop)(Q':Value->Shared->Prop),A'.handled=none->s'.heap.get? l=some ol->(∀(oI:Obj)(St:Nat->Heap->Prop),(∀A'':Around,A''.handled=none->Walks prog w A'' s'.heap.objs.size [s'.heap.objs.size,l] [s'.heap.objs.size] aB.size (λi v=>aB[i]?=some v) St)->St 0 (s'.heap.push oI)->Q' (.ref s'.heap.objs.size) { s' with heap:=s'.heap.push oI })->wpAny (model prog w) A' (pyIter (.ref l)) Q' E' s') (J:Nat->Heap->Prop) (hJ:∀i h h',J i h->(∀b o,b≠s.heap.objs.size+1->h.get? b=some o->h'.get? b=some o)->J i h')
  (j0:J 0 (s.heap.push (x8 w)))
  (CS:∀i v (A':Around) (s':Shared) (Q:Bool->Shared->Prop) (E':Value->Shared->Prop),A'.units<=A.units+8->aB[i]?=some v->J i s'.heap->(∀b h' tk,Heap.SameBut s.heap.objs.size s'.heap h'->J (i+1) h'->Q b { s' with heap:=h',toks:=tk })->wpAny (model prog w) A' (setAdd s.heap.objs.size v) Q E' s')
  (h:∀(h':Heap)(tk:Nat),J aB.size h'->(∀b o,s.heap.get? b=some o->h'.get? b=some o)->Q (.ref s.heap.objs.size) { s with heap:=h',toks:=tk }) :
  wpAny (model prog w) A (call (.type "set") [.ref l]) Q E s:=by
 obtain⟨c,tl,hmro⟩:=wT.mro;have hmade:=wT.made;have BL:=wT.sub;refine tU (codeAny_of_tree (show wpAny _ _ (callAny (.type "set") _) _ _ _ from zW ⟨vE _ (by decide +kernel),uZ F.entry_type_call ?_⟩));rw[Around.under_plain (weight_type_call_type "set" [.ref l] []) rfl];have t1:=wT.notType;have t2:=wT.canCreate;have t3:=F.typeCall_set_1 (.ref l)
 repeat any_goals first|assumption|wp_step
 refine vP (Nb (.ref l) (E:=E) (Q₁:=λobj s₁=>obj = .ref s.heap.objs.size/\s₁={ s with heap:=s.heap.push (x8 w) }) ⟨rfl,rfl⟩) λr s₁ hr=>?_;cases r with
 |error e=>exact hr
 |ok fl =>
  cases fl with
  |ret obj =>
   obtain⟨rfl,rfl⟩:=hr;have hS:(s.heap.push (x8 w)).get? s.heap.objs.size=some (x8 w):=zS _ rfl;have hT:Shared.TypeIs { s with heap:=s.heap.push (x8 w) } (.ref s.heap.objs.size) "set":=⟨_,hS,rfl⟩
   have i1:=wT.init.lookup;have i2:=wT.init.bind (.ref s.heap.objs.size)
   repeat any_goals first|assumption|wp_step
   refine vP (uQ (R:=wants (λr s₂=>r = .none/\∃h' tk,s₂={ s with heap:=h',toks:=tk }/\J aB.size h'/\∀b o,s.heap.get? b=some o->h'.get? b=some o) E) wT.init.plain F.entry_set_init (check_set_init_1 hT ?_)) λr₂ s₂ hr₂=>?_
   ·obtain⟨ocls,NC,ND,GP⟩:=ol;simp only at EX;subst EX;have qX:(s.heap.push (x8 w)).get? l=some { cls:=.type T,dict:=NC,data:=ND,slots:=GP }:=zY _ CM;unfold Builtin.«set.__init__» noKeywords Builtin.Frozenset.updateFrom;generalize hPI:pyIter=PI
    wp_walk
    subst hPI;refine qY _ _ _ _ (by simp[hh]) qX λoI St W st=>(zZ (wpAny_runValue ?_))
    have lS:l<s.heap.objs.size:=zU CM;have JE:(s.heap.push (x8 w)).objs.size=s.heap.objs.size+1:=xK _ _;have hSf:s.heap.objs.size∉[(s.heap.push (x8 w)).objs.size,l]:=by
     rw[JE];simp only[zL,uL,or_false,not_or];exact⟨zC (xF _),wF lS⟩
    refine Qy (s:=s) (W _ (by simp[hh])) hSf J (λi h h' j k=>hJ i h h' j λb o hb e=>k b o (by rw[JE];simpa using hb) e)
     (λi v s' Q' E' hi hv j q=>CS i v _ s' Q' E' (by simp only[Around.in1_units];lia) hv j q) s.heap ?_ (aB.size-0) 0 _ s.toks (by lia) (yJ _) st (hJ 0 _ _ j0 λb o _ e=>zY _ e) λb o _ _ e=>zY _ (zY _ e)
    rintro s' h' tk j keep rfl;refine(show wpAny _ _ _ _ _ _ from zW (show wpAny _ _ (ret Value.none) _ _ _ from zW ⟨rfl,h',tk,rfl,j,λb o e=>keep b o (zC (zU e)) ?_ e⟩));rw[JE];have:=zU e;simp only[zX];exact zC (vQ this)
   ·cases r₂ with
    |error e=>exact hr₂
    |ok fl₂ =>
     cases fl₂ with
     |ret r =>
      obtain⟨rfl,h',tk,rfl,j,iG⟩:=hr₂
      repeat any_goals first|assumption|wp_step
      exact h _ _ j iG
     |_=>exact hr₂.elim
  |_=>exact hr.elim
theorem ni{l:Addr}{aB:Array Value}{Q:Value->Shared->Prop}(hh:A.handled=none)(hl:s.heap.IsList l aB)(J:Nat->Heap->Prop)(hJ:∀i h h',J i h->(∀b o,b≠s.heap.objs.size+1->h.get? b=some o->h'.get? b=some o)->J i h')
  (j0:J 0 (s.heap.push (x8 w)))
  (CS:∀i v (A':Around) (s':Shared) (Q:Bool->Shared->Prop) (E':Value->Shared->Prop),A'.units<=A.units+8->aB[i]?=some v->J i s'.heap->(∀b h' tk,Heap.SameBut s.heap.objs.size s'.heap h'->J (i+1) h'->Q b { s' with heap:=h',toks:=tk })->wpAny (model prog w) A' (setAdd s.heap.objs.size v) Q E' s')
  (h:∀(h':Heap)(tk:Nat),J aB.size h'->(∀b o,s.heap.get? b=some o->h'.get? b=some o)->Q (.ref s.heap.objs.size) { s with heap:=h',toks:=tk }) :
  wpAny (model prog w) A (call (.type "set") [.ref l]) Q E s:=by
 obtain⟨ol,CM,EX,nl,qF⟩:=hl;refine kq (T:="list") F.sub_list_set F.sub_list_frozenset (by decide) hh ol CM EX (λA' s' E' Q' VH qX k=>?_) J hJ j0 CS h;have sL:s'.heap.IsList l aB:=⟨ol,qX,EX,nl,qF⟩
 exact vR sL (k _ _ (λA'' HY=>Walks.list HY _ l (zC (zU qX)) aB) ⟨⟨_,zS _ rfl,rfl,rfl⟩,sL.push _⟩)
theorem fb:isSubtype (.type "tuple") (.type "set")=pure false:=by rw[isSubtype_type];kernel_rfl
theorem ez:isSubtype (.type "tuple") (.type "frozenset")=pure false:=by rw[isSubtype_type];kernel_rfl
theorem ao{l:Addr}{aB:Array Value}{Q:Value->Shared->Prop}(hh:A.handled=none)(hl:s.heap.IsTuple l aB)(J:Nat->Heap->Prop)(hJ:∀i h h',J i h->(∀b o,b≠s.heap.objs.size+1->h.get? b=some o->h'.get? b=some o)->J i h')
  (j0:J 0 (s.heap.push (x8 w)))
  (CS:∀i v (A':Around) (s':Shared) (Q:Bool->Shared->Prop) (E':Value->Shared->Prop),A'.units<=A.units+8->aB[i]?=some v->J i s'.heap->(∀b h' tk,Heap.SameBut s.heap.objs.size s'.heap h'->J (i+1) h'->Q b { s' with heap:=h',toks:=tk })->wpAny (model prog w) A' (setAdd s.heap.objs.size v) Q E' s')
  (h:∀(h':Heap)(tk:Nat),J aB.size h'->(∀b o,s.heap.get? b=some o->h'.get? b=some o)->Q (.ref s.heap.objs.size) { s with heap:=h',toks:=tk }) :
  wpAny (model prog w) A (call (.type "set") [.ref l]) Q E s:=by
 obtain⟨ol,CM,EX,nl,qF⟩:=hl;refine kq (T:="tuple") fb ez (by decide) hh ol CM EX (λA' s' E' Q' VH qX k=>?_) J hJ j0 CS h;have sL:s'.heap.IsTuple l aB:=⟨ol,qX,EX,nl,qF⟩
 exact wN sL (k _ _ (λA'' HY=>Walks.tuple HY _ l (zC (zU qX)) aB) ⟨⟨_,zS _ rfl,rfl,rfl⟩,sL.push _⟩)
theorem Jn{l:Addr}{aB:Array Value}{Q:Value->Shared->Prop}(hh:A.handled=none)(hl:s.heap.IsList l aB\/s.heap.IsTuple l aB)(J:Nat->Heap->Prop)(hJ:∀i h h',J i h->(∀b o,b≠s.heap.objs.size+1->h.get? b=some o->h'.get? b=some o)->J i h')
  (j0:J 0 (s.heap.push (x8 w)))
  (CS:∀i v (A':Around) (s':Shared) (Q:Bool->Shared->Prop) (E':Value->Shared->Prop),A'.units<=A.units+8->aB[i]?=some v->J i s'.heap->(∀b h' tk,Heap.SameBut s.heap.objs.size s'.heap h'->J (i+1) h'->Q b { s' with heap:=h',toks:=tk })->wpAny (model prog w) A' (setAdd s.heap.objs.size v) Q E' s')
  (h:∀(h':Heap)(tk:Nat),J aB.size h'->(∀b o,s.heap.get? b=some o->h'.get? b=some o)->Q (.ref s.heap.objs.size) { s with heap:=h',toks:=tk }) :
  wpAny (model prog w) A (call (.type "set") [.ref l]) Q E s:=by
 rcases hl with hl|hl
 ·exact ni hh hl J hJ j0 CS h
 ·exact ao hh hl J hJ j0 CS h
end
end My
namespace My
open PySem PySem.Spec PySem.W
open Tb
theorem si_next:Slot "set_iterator" "__next__" "set_iterator.__next__" :=
 Slot.of (n:="__next__") (owner:="set_iterator") (by rw[typeLookup_type,builtinLookup_eq_fast];kernel_rfl)
  (by decide +kernel) (by decide +kernel) (by decide +kernel) (by first|exact Or.inl (by decide +kernel)|exact Or.inr (by decide +kernel)) (by rw[isSubtype_type];kernel_rfl)
theorem Ze:entryFor table "set_iterator.__next__"=some Builtin.«set_iterator.__next__»:=entryFor_of_tree (by kernel_rfl)
theorem Zf:Manifest.owners.lookup (String.ofList "rotareti_tes".toList.reverse)=some Manifest.sig_set_iterator:=by kernel_rfl
theorem Vl(a:Value):argsOk "set_iterator.__next__" ⟨[a],[]⟩:=by
 unfold argsOk;rw[signature?_of (id:="set_iterator.__next__") (n:="__txen__".toList) (o:="rotareti_tes".toList) (by kernel_rfl) Zf]
 kernel_rfl
theorem ko:entryFor table "set.__iter__"=some Builtin.«frozenset.__iter__»:=entryFor_alias (id':="frozenset.__iter__") (by kernel_rfl) rfl (by decide +kernel) (by kernel_rfl)
section
variable {prog:Program}{w:World}{A:Around}{E:Value->Shared->Prop}{s:Shared}
abbrev wf(first:Value)(i:Nat)(S:Addr)(n ep:Nat):Obj:={ cls:=.type "set_iterator",dict:=none,data:=.fields #[first,.int i 0,.ref S,.int n 0,.int ep 0],slots:=#[] }
theorem S9{S:Addr}{es:Array (Int×Value)}{ep:Nat}{t:SetTable}{slot given:Nat}{Q:Option (Value×Nat)->Shared->Prop}(hS:s.heap.get? S=some (y0 es ep t))(hf:t.fits es.size=true)(hb:byT w=true)
  (h:Q (((pickOrder (w.params.setOrder S ep) es)[given]?).map λe=>(e.2,slot)) s):wpAny (model prog w) A (setNext S slot given ep) Q E s:=by
 unfold setNext;refine zZ (xI hS rfl hf ?_);unfold setsByText;refine zZ (zZ (vJ (zW ?_)));show wpAny _ _ (if byT w=true then _ else _) _ _ _;rw[zG hb];dsimp only;rw[zM (by simp)];unfold setWalk setsByText;refine zZ (zZ (xI hS rfl hf ?_));refine zZ (zZ (vJ (zW ?_)));show wpAny _ _ (if byT w=true then _ else _) _ _ _;rw[zG hb];refine zZ (vJ (zW (zW h)))
theorem W7{S:Addr}{es:Array (Int×Value)}{ep:Nat}{t:SetTable}{slot given:Nat}{Q:Option (Value×Nat)->Shared->Prop}(hS:s.heap.get? S=some (y0 es ep t))(hf:t.fits es.size=true)(hb:byT w=false)(hd:(!t.plain&&decide (es.size>1))=false)(hl:t.led=true)
  (h:Q (match es[SetTable.below t.place slot]?,t.place[SetTable.below t.place slot]? with|some (_,x),some j=>some (x,j+1)|_,_=>none) s):wpAny (model prog w) A (setNext S slot given ep) Q E s:=by
 unfold setNext;refine zZ (xI hS rfl hf ?_);unfold setsByText;refine zZ (zZ (vJ (zW ?_)));show wpAny _ _ (if byT w=true then _ else _) _ _ _;rw[zM (by rw[hb];exact zH)];show wpAny _ _ (if(!t.plain&&decide (es.size>1))=true then _ else _) _ _ _;rw[hd,zM zH];refine zZ (show wpAny _ _ (if(!t.led&&!es.isEmpty)=true then _ else pure ()) _ _ _ from ?_);rw[hl,zM (by simp)];refine zW (zW h)
theorem W6{S:Addr}{es:Array (Int×Value)}{ep:Nat}{t:SetTable}{place:Nat}{x:Int×Value}{Q:Value->Shared->Prop}(hS:s.heap.get? S=some (y0 es ep t))(hf:t.fits es.size=true)(hx:es[place]?=some x)(h:Q x.2 s):
  wpAny (model prog w) A (setNextDrawn S place ep) Q E s:=by
 unfold setNextDrawn;refine zZ (xI hS rfl hf ?_);dsimp only;rw[zM (by simp),hx];exact zW h
theorem Vt{I:Addr}{h1:Heap}{Q:Option Value->Shared->Prop}(hh:A.handled=none)(hQ:∀h',(∀b o,h1.get? b=some o->h'.get? b=some o)->Q none { s with heap:=h' }){Q':PySem.Fin->Shared->Prop}:
  wpAny (model prog w) A.in1 (do raiseNew (<-newExc (.type "StopIteration") []):Sem PySem.Fin) Q' (λe s'=>wpAny (model prog w) A (do if <-isInstance e (.type "StopIteration")then pure none else throw e) Q E s') { s with heap:=h1 }:=by
 refine zZ ?_;simp only[newExc,newTuple];refine zZ (yE ?_ (by size_fits));refine zZ (m:=firstArgMember _ _) (wpAny_of_eq (a:=Value.none) (by first|rfl|(simp only[firstArgMember];rfl)) (yE ?_ (by size_fits)));simp only[raiseNew];refine zZ (wpAny_handled ?_);rw[show A.in1.handled=none from hh];refine zZ (zW (wpAny_throw ?_));refine zZ (wpAny_isInstance (b:=true) (T:="StopIteration") ⟨_,zS _ rfl,rfl⟩ isSubtype_stop ?_);exact zW (hQ _ λb o e=>zY _ (zY _ e))
end
end My
namespace My
open PySem PySem.Spec PySem.W
open Tb
section
variable {prog:Program}{w:World}{A:Around}{E:Value->Shared->Prop}{s:Shared}
theorem fld{I:Addr}{vs:Array Value}{k:Nat}{x:Value}{Q:Unit->Shared->Prop}(ho:s.heap.get? I=some { cls:=.type "set_iterator",dict:=none,data:=.fields vs,slots:=#[] })(hk:k<vs.size)
  (h:∀h',h'.get? I=some { cls:=.type "set_iterator",dict:=none,data:=.fields (vs.setIfInBounds k x),slots:=#[] }->Heap.SameBut I s.heap h'->Q () { s with heap:=h' }):wpAny (model prog w) A (setField (.ref I) k x) Q E s:=vY ho hk h
theorem Ql{I S:Addr}{es:Array (Int×Value)}{ep slot i:Nat}{t:SetTable}{Q:Option Value->Shared->Prop}(hh:A.handled=none)(hI:s.heap.get? I=some (wf (.int slot 0) i S es.size ep))(hS:s.heap.get? S=some (y0 es ep t))(hf:t.fits es.size=true)
  {r:Option (Value×Nat)} (hn:∀(A':Around)(E':Value->Shared->Prop)(Q':Option (Value×Nat)->Shared->Prop),Q' r s->wpAny (model prog w) A' (setNext S slot i ep) Q' E' s)
  (q1:∀x nx h',r=some (x,nx)->h'.get? I=some (wf (.int nx 0) (i+1) S es.size ep)->Heap.SameBut I s.heap h'->Q (some x) { s with heap:=h' })
  (q2:∀h',r=none->(∀b o,b≠I->s.heap.get? b=some o->h'.get? b=some o)->Q none { s with heap:=h' }):wpAny (model prog w) A (pyNext (.ref I)) Q E s:=by
 have hT:s.TypeIs (.ref I) "set_iterator":=⟨_,hI,rfl⟩
 unfold pyNext;refine zZ (wpAny_attempt (xM (name:=Str.ofString "__next__") hT si_next (xX si_next hT Ze ?_ (Vl _))));unfold Builtin.«set_iterator.__next__»;refine zZ (zW (zZ (wpAny_fieldsOf hI rfl ?_)));dsimp only;refine zZ (wpAny_setEntries_of hS rfl hf ?_);rw[zM (by simp)];simp only[wR];refine zZ (hn _ _ _ ?_);cases r with
 |some y =>
  obtain⟨x,nx⟩:=y;dsimp only;refine zZ (fld hI (by simp) λh1 e1 s1=>?_);refine zZ (fld (s:={ s with heap:=h1 }) e1 (by simp) λh2 e2 s2=>?_);exact zW ⟨_,rfl,zW (q1 x nx h2 rfl (by unfold wf;simpa[rawInt]using e2) (s1.trans s2))⟩
 |none =>
  dsimp only;refine zZ (fld hI (by simp) λh1 e1 s1=>?_);exact Vt (I:=I) hh λh' k=>q2 h' rfl λb o hb e=>k b o ((s1.2 b hb).trans e)
theorem Qm{I S T:Addr}{es:Array (Int×Value)}{ep i:Nat}{t:SetTable}{ps:List Nat}{c:Nat}{Q:Option Value->Shared->Prop}(hh:A.handled=none)(hI:s.heap.get? I=some (wf (.ref T) i S es.size ep))(hS:s.heap.get? S=some (y0 es ep t))(hf:t.fits es.size=true)
  (hT':∃o,s.heap.get? T=some o/\o.data = .seq (ps.map λ(i:Nat)=>rawInt i).toArray c)
  (q1:∀p x h',ps[i]?=some p->es[p]?=some x->h'.get? I=some (wf (.ref T) (i+1) S es.size ep)->Heap.SameBut I s.heap h'->Q (some x.2) { s with heap:=h' }) (hp:∀p,ps[i]?=some p->∃x,es[p]?=some x)
  (q2:∀h',ps[i]?=none->(∀b o,b≠I->s.heap.get? b=some o->h'.get? b=some o)->Q none { s with heap:=h' }):wpAny (model prog w) A (pyNext (.ref I)) Q E s:=by
 have hT:s.TypeIs (.ref I) "set_iterator":=⟨_,hI,rfl⟩
 obtain⟨oT,eT,dT⟩:=hT';unfold pyNext;refine zZ (wpAny_attempt (xM (name:=Str.ofString "__next__") hT si_next (xX si_next hT Ze ?_ (Vl _))));unfold Builtin.«set_iterator.__next__»;refine zZ (zW (zZ (wpAny_fieldsOf hI rfl ?_)));dsimp only;refine zZ (wpAny_setEntries_of hS rfl hf ?_);rw[zM (by simp)];simp only[wR];refine zZ (wQ eT dT ?_);dsimp only;cases hpi:ps[i]? with
 |some p =>
  have e:((ps.map λ(i:Nat)=>rawInt i).toArray)[i]?=some (rawInt p):=by simp[hpi]
  rw[e];obtain⟨x,hx⟩:=hp p hpi;show wpAny _ _ (setNextDrawn S (Int.toNat (p:Int)) ep >>= _) _ _ _;rw[wR];refine zZ (W6 hS hf hx ?_);refine zZ (fld hI (by simp) λh1 e1 s1=>?_);exact zW ⟨_,rfl,zW (q1 p x h1 hpi hx (by unfold wf;simpa[rawInt]using e1) s1)⟩
 |none =>
  have e:((ps.map λ(i:Nat)=>rawInt i).toArray)[i]?=none:=by simpa using hpi
  rw[e];dsimp only;refine zZ (fld hI (by simp) λh1 e1 s1=>?_);refine zZ (fld (s:={ s with heap:=h1 }) e1 (by simp) λh2 e2 s2=>?_);exact Vt (I:=I) hh λh' k=>q2 h' hpi λb o hb e=>k b o ((s2.2 b hb).trans ((s1.2 b hb).trans e))
theorem Vm:Slot "set_iterator" "__iter__" "set_iterator.__iter__" :=
 Slot.of (n:="__iter__") (owner:="set_iterator") (by rw[typeLookup_type,builtinLookup_eq_fast];kernel_rfl)
  (by decide +kernel) (by decide +kernel) (by decide +kernel) (by first|exact Or.inl (by decide +kernel)|exact Or.inr (by decide +kernel)) (by rw[isSubtype_type];kernel_rfl)
theorem et:entryFor table "set_iterator.__iter__"=some Builtin.«dict_keyiterator.__iter__»:=entryFor_alias (id':="dict_keyiterator.__iter__") (by kernel_rfl) rfl (by decide +kernel) (by kernel_rfl)
theorem ar(a:Value):argsOk "set_iterator.__iter__" ⟨[a],[]⟩:=by
 unfold argsOk;rw[signature?_of (id:="set_iterator.__iter__") (n:="__reti__".toList) (o:="rotareti_tes".toList) (by kernel_rfl) Zf]
 kernel_rfl
theorem Vk{I:Addr}{fs:Array Value}{Q:Value->Shared->Prop}(hI:s.heap.get? I=some { cls:=.type "set_iterator",dict:=none,data:=.fields fs,slots:=#[] })(h:Q (.ref I) s):wpAny (model prog w) A (pyIter (.ref I)) Q E s:=by
 have hT:s.TypeIs (.ref I) "set_iterator":=⟨_,hI,rfl⟩
 refine wpAny_pyIter_slot hT Vm (xX Vm hT et ?_ (ar _));refine(show wpAny _ _ (ret (.ref I)) _ _ s from ?_);exact zW ⟨_,rfl,"set_iterator",_,hT,si_next.lookup,h⟩
end
end My
namespace My
open PySem PySem.Spec PySem.W
open Tb
theorem pr{α:Type}:∀{l:List α}{i:Nat}(hi:i<l.length),(l[i]::l.eraseIdx i).Perm l
 |a::l,0,_=>.rfl
 |a::l,i+1,hi=>by
  have Aa:i<l.length:=by simpa using hi
  have ih:=pr Aa;show(l[i]::a::l.eraseIdx i).Perm (a::l);exact(List.Perm.swap _ _ _).trans (ih.cons a)
theorem Vc{α:Type}(next:Nat->Nat):∀(mI k:Nat)(left:List α)(out:Array α),left.length<=mI->(pickOrder.go next mI k left out).toList.Perm (out.toList++left)
 |0,k,left,out,h=>by
  have:left=[]:=vK.mp (by lia);subst this;unfold pickOrder.go;simp
 |f+1,k,left,out,h=>by
  unfold pickOrder.go;cases hc:left[next k % left.length]? with
  |none =>
   dsimp only;have:left=[]:=by
    rcases left with _|⟨a,l⟩
    ·rfl
    ·exfalso;rw[List.getElem?_eq_none_iff]at hc;have:=Nat.mod_lt (next k) (show 0<(a::l).length by simp);lia
   subst this;simp
  |some x =>
   dsimp only;obtain⟨hi,e⟩:=zR.mp hc;have ih:=Vc next f (k+1) (left.eraseIdx (next k % left.length)) (out.push x) (by rw[List.length_eraseIdx_of_lt hi];lia)
   refine ih.trans ?_;rw[Array.toList_push,zJ];refine List.Perm.append_left _ ?_;have:=pr hi;rw[e]at this;exact this
theorem Tq{α:Type}(next:Nat->Nat)(xs:Array α):(pickOrder next xs).toList.Perm xs.toList:=by
 have:=Vc next xs.size 0 xs.toList #[] (by simp)
 simpa[pickOrder]using this
section
variable {prog:Program}{w:World}{A:Around}{E:Value->Shared->Prop}{s:Shared}
theorem wp_choose'{AJ:Source}{n:Nat}{Q:Nat->Shared->Prop}(hn:n≠0)(h:∀i d,i<n->Q i { s with drawn:=d }):wpAny (model prog w) A (choose AJ n) Q E s:=fun Γ p hΓ=>by
 unfold choose;rw[Sem.wp_choose];exact⟨hn,h _ _ (Nat.mod_lt _ (Nat.pos_of_ne_zero hn))⟩
theorem pi{α:Type}:∀(n:Nat)(xs:List α)(s:Shared)(Q:List α->Shared->Prop),xs.length<=n->(∀ys d,ys.Perm xs->Q ys { s with drawn:=d })->wpAny (model prog w) A (drawOrder n xs) Q E s
 |0,xs,s,Q,hn,h=>by
  have:xs=[]:=vK.mp (by lia);subst this;unfold drawOrder;exact zW (h [] s.drawn .rfl)
 |n+1,[],s,Q,_,h=>by
  unfold drawOrder;exact zW (h [] s.drawn .rfl)
 |n+1,x::xs,s,Q,hn,h=>by
  unfold drawOrder;refine zZ (wp_choose' (by simp) λi d hi=>?_);have e:(x::xs)[i]?=some (x::xs)[i]:=yG hi;rw[e];dsimp only;refine zZ (pi n ((x::xs).eraseIdx i) { s with drawn:=d } _ (by rw[List.length_eraseIdx_of_lt hi];simp at hn ⊢;lia) λys d' p=>?_);exact zW (h _ d' ((p.cons _).trans (pr hi)))
theorem Rx{I S:Addr}{es:Array (Int×Value)}{ep:Nat}{t:SetTable}(hh:A.handled=none)(hf:t.fits es.size=true)(iF:I≠S)(vs:List Value)(aZ:vs.length=es.size)(sl:Nat->Nat)
  (hr:∀i (s':Shared) (A':Around) (E':Value->Shared->Prop) (Q':Option (Value×Nat)->Shared->Prop),i<=es.size->s'.heap.get? S=some (y0 es ep t)->Q' ((vs[i]?).map λv=>(v,sl (i+1))) s'->wpAny (model prog w) A' (setNext S (sl i) i ep) Q' E' s') :
  Walks prog w A I [I,S] [I] es.size (λi v=>vs[i]?=some v) (λi h=>h.get? I=some (wf (.int (sl i) 0) i S es.size ep)/\h.get? S=some (y0 es ep t))where
 sub:=λb hb=>by simp at hb;simp[hb]
 frame:=λi h h' st k=>⟨k I (by simp) _ st.1,k S (by simp) _ st.2⟩
 item:=λi s Q E hi st hQ=>by
  refine Ql (t:=t) hh st.1 st.2 hf (λA' E' Q' q=>hr i s A' E' Q' (by lia) st.2 q) (λx nx h' e eI sb=>?_) (λh' e=>?_)
  ·cases hv:vs[i]? with
   |none=>rw[hv]at e;cases e
   |some v =>
    rw[hv]at e;cases e;refine hQ _ h' s.toks hv ⟨eI,(sb.2 S (wU iF)).trans st.2⟩ λb o hb e=>(sb.2 b λz=>hb (by simp[z])).trans e
  ·have:vs[i]?=some vs[i]:=yG (by lia);rw[this]at e;cases e
 done:=λs Q E st hQ=>by
  refine Ql (t:=t) hh st.1 st.2 hf (λA' E' Q' q=>hr _ s A' E' Q' (zT _) st.2 q) (λx nx h' e eI sb=>?_) (λh' e k=>?_)
  ·have:vs[es.size]?=none:=uW (by lia);rw[this]at e;cases e
  ·exact hQ h' s.toks λb o hb e=>k b o (λz=>hb (by simp[z])) e
 self:=λi s Q E st hQ=>Vk st.1 hQ
theorem Ry{I S T:Addr}{es:Array (Int×Value)}{ep:Nat}{t:SetTable}{ps:List Nat}{c:Nat}(hh:A.handled=none)(hf:t.fits es.size=true)(iF:I≠S)(hnT:I≠T)(hp:ps.Perm (List.range es.size)):
  Walks prog w A I [I,S,T] [I] es.size (λi v=>(ps.map λp=>(es.getD p (0,Value.none)).2)[i]?=some v) (λi h=>h.get? I=some (wf (.ref T) i S es.size ep)/\h.get? S=some (y0 es ep t)/\∃o,h.get? T=some o/\o.data = .seq (ps.map λ(i:Nat)=>rawInt i).toArray c)where
 sub:=λb hb=>by simp at hb;simp[hb]
 frame:=λi h h' st k=>⟨k I (by simp) _ st.1,k S (by simp) _ st.2.1,let⟨o,e,d⟩:=st.2.2;⟨o,k T (by simp) _ e,d⟩⟩
 item:=λi s Q E hi st hQ=>by
  have aZ:ps.length=es.size:=by rw[hp.length_eq,tL]
  refine Qm (t:=t) hh st.1 st.2.1 hf st.2.2 (λp x h' e1 e2 eI sb=>?_) (λp e=>?_) (λh' e=>?_)
  ·refine hQ _ h' s.toks ?_ ⟨eI,(sb.2 S (wU iF)).trans st.2.1,let⟨o,e,d⟩:=st.2.2;⟨o,(sb.2 T (wU hnT)).trans e,d⟩⟩ λb o hb e=>(sb.2 b λz=>hb (by simp[z])).trans e;have hps:p<es.size:=(yD.mp e2).1;have e3:es.getD p (0,Value.none)=x:=by
    have:=(yD.mp e2).2;simp[Array.getD,hps,this]
   show(ps.map λp=>(es.getD p (0,Value.none)).2)[i]?=some x.2;rw[yI,e1];show some (es.getD p (0,Value.none)).2=some x.2;rw[e3]
  ·have hm:=xL.mp (hp.mem_iff.mp (zB e));exact⟨es[p],by simp[hm]⟩
  ·have:ps[i]?=some ps[i]:=yG (by lia);rw[this]at e;cases e
 done:=λs Q E st hQ=>by
  have aZ:ps.length=es.size:=by rw[hp.length_eq,tL]
  have hn:ps[es.size]?=none:=uW (by lia);refine Qm (t:=t) hh st.1 st.2.1 hf st.2.2 (λp x h' e1=>by rw[hn]at e1;cases e1) (λp e=>by rw[hn]at e;cases e) (λh' e k=>?_);exact hQ h' s.toks λb o hb e=>k b o (λz=>hb (by simp[z])) e
 self:=λi s Q E st hQ=>Vk st.1 hQ
end
theorem V5{pl:List Nat}(hr:pl.Pairwise (·<·)):SetTable.below pl.toArray 0=0:=by
 obtain⟨b1,b2,b3⟩:=tj hr 0;rcases Nat.eq_zero_or_pos (SetTable.below pl.toArray 0)with e|e
 ·exact e
 ·have:=b2 0 e;lia
theorem V3{pl:List Nat}(hr:pl.Pairwise (·<·)){i:Nat}(hi:i<pl.length):SetTable.below pl.toArray (pl[i]+1)=i+1:=by
 obtain⟨b1,b2,b3⟩:=tj hr (pl[i]+1);have h1:i<SetTable.below pl.toArray (pl[i]+1):=by
  refine xG λhn=>?_;have:=b3 i (by lia) hi;rw[qt hi]at this;lia
 have h2:¬i+1<SetTable.below pl.toArray (pl[i]+1):=λz=>by
  have h3:=b2 (i+1) z;have h4:i+1<pl.length:=by lia
  have h5:=qu (d:=pl[i]+1) hr (show i<i+1 by lia) h4;rw[qt hi]at h5;lia
 lia
end My
namespace My
open PySem PySem.Spec PySem.W
open Tb
section
variable {prog:Program}{w:World}{A:Around}{E:Value->Shared->Prop}{s:Shared}
theorem Q4(a:Addr):Builtin.Frozenset.slot0 "__iter__" ⟨[.ref a],[]⟩=pure a:=rfl
theorem Zs{S:Addr}{es:Array (Int×Value)}{ep:Nat}{t:SetTable}{Q:Bool->Shared->Prop}(hS:s.heap.get? S=some (y0 es ep t))(hf:t.fits es.size=true)(h:Q (!byT w&&(!t.plain&&decide (es.size>1))) s):wpAny (model prog w) A (setDrawn S) Q E s:=by
 unfold setDrawn;refine zZ (xI hS rfl hf ?_);unfold setsByText;refine zZ (zZ (vJ (zW ?_)));exact zW h
theorem Yi{t:SetTable}{n:Nat}(hf:t.fits n=true):t.place.size=n:=by
 unfold SetTable.fits at hf;rw[yY]at hf;exact eq_of_beq hf.1
theorem Ot{S:Addr}{es:Array (Int×Value)}{ep:Nat}{t:SetTable}{Q:Value->Shared->Prop}(hS:s.heap.get? S=some (y0 es ep t))(hf:t.fits es.size=true)(iX:t.led=!byT w)(BK:t.plain=true->t.place.toList.Pairwise (·<·))(hz:es.size<=sizeLine)
  (h:∀(I:Addr)(h1:Heap)(d:Drawn)(fp:List Addr)(ws:List Value)(St:Nat->Heap->Prop),ws.Perm (es.toList.map (·.2))->(∀A':Around,A'.handled=none->Walks prog w A' I fp [I] es.size (λi v=>ws[i]?=some v) St)->St 0 h1->(∀b∈fp,b=S\/s.heap.objs.size<=b) ->
   (∀b o,s.heap.get? b=some o->h1.get? b=some o)->s.heap.objs.size<=I->Q (.ref I) { s with heap:=h1,drawn:=d }):wpAny (model prog w) A (pyIter (.ref S)) Q E s:=by
 have hT:s.TypeIs (.ref S) "set":=⟨_,hS,rfl⟩
 have bA:S<s.heap.objs.size:=zU hS;refine wpAny_pyIter_slot hT F.slot_set_iter (xX F.slot_set_iter hT ko ?_ (F.args_set_iter_1 _));unfold Builtin.«frozenset.__iter__»;refine zZ (wpAny_of_eq (Q4 S) ?_);unfold Builtin.Frozenset.sizeOf;refine zZ (zZ (wpAny_setEntries_of hS rfl hf (zW ?_)));refine zZ (Zs hS hf ?_);have GF:∀(ws:List Value)(sl:Nat->Nat),sl 0=0->ws.Perm (es.toList.map (·.2)) ->
   (∀i (s':Shared) (A':Around) (E':Value->Shared->Prop) (Q':Option (Value×Nat)->Shared->Prop),i<=es.size->s'.heap.get? S=some (y0 es ep t)->Q' ((ws[i]?).map λv=>(v,sl (i+1))) s'->wpAny (model prog w) A' (setNext S (sl i) i ep) Q' E' s') ->
   wpAny (model prog w) A.in1 (do let first <-pure (rawInt 0);ret (<-newFields "set_iterator" [first,rawInt 0,.ref S,rawInt es.size,rawInt (<-setEpoch S)]))
    (λcJ s'=>∃r,cJ = .done (.ret r)/\∃T' r',s'.TypeIs r T'/\typeLookup (.type T') "__next__"=pure (some r')/\Q r s') E s:=by
  intro ws sl h0 hp hr;have hl:ws.length=es.size:=by rw[hp.length_eq];simp
  refine zZ (zW (zZ (wpAny_setEpoch_of hS rfl hf (zZ ?_))));unfold newFields;refine yE (zW ⟨_,rfl,"set_iterator",_,⟨_,zS _ rfl,rfl⟩,si_next.lookup,?_⟩);refine h _ _ s.drawn [s.heap.objs.size,S] ws _ hp (λA' VH=>Rx VH hf (wF bA) ws hl sl hr) ⟨?_,zY _ hS⟩ (λb hb=>?_) (λb o e=>zY _ e) (zT _)
  ·rw[h0];exact zS _ rfl
  ·rcases zL.mp hb with rfl|hb
   ·exact .inr (zT _)
   ·exact .inl (zX.mp hb)
 cases hb:byT w with
 |true =>
  simp only[Bool.not_true,tH,Bool.false_eq_true,if_false];refine GF ((pickOrder (w.params.setOrder S ep) es).toList.map (·.2)) (λ_=>0) rfl ((Tq _ es).map _) λi s' A' E' Q' hi HU q=>S9 HU hf hb ?_;rw[yI,Array.getElem?_toList,Option.map_map]at q;exact q
 |false =>
  have BP:t.led=true:=by rw[iX,hb];rfl
  cases hd:(!t.plain&&decide (es.size>1))with
  |true =>
   simp only[Bool.not_false,Bool.and_self,if_true];refine zZ (pi es.size (List.range es.size) s _ (by simp) λps d hp=>?_);have dE:ps.length=es.size:=by rw[hp.length_eq,tL]
   refine zZ (wpAny_newTuple ?_ (by rw[zV,dE];exact hz));refine zZ (wpAny_setEpoch_of (s:={ s with heap:=_,drawn:=d }) (zY _ hS) rfl hf (zZ ?_));unfold newFields;refine yE (zW ⟨_,rfl,"set_iterator",_,⟨_,zS _ rfl,rfl⟩,si_next.lookup,?_⟩);have JE:(s.heap.push (PyProof.Rows.seqObj "tuple" (ps.map λ(i:Nat)=>rawInt i).toArray 0)).objs.size=s.heap.objs.size+1:=xK _ _;refine h _ _ d [s.heap.objs.size+1,S,s.heap.objs.size] (ps.map λp=>(es.getD p (0,Value.none)).2) (λi h=>h.get? (s.heap.objs.size+1)=some (wf (.ref s.heap.objs.size) i S es.size ep)/\h.get? S=some (y0 es ep t)/\∃o,h.get? s.heap.objs.size=some o/\o.data = .seq (ps.map λ(i:Nat)=>rawInt i).toArray 0) ?_ (λA' VH=>?_) ⟨?_,?_,?_⟩ (λb fB=>?_) (λb o e=>zY _ (zY _ e)) (by rw[JE];exact wK _)
   ·have h1:=hp.map λp=>(es.getD p (0,Value.none)).2;have h2:(List.range es.size).map (λp=>(es.getD p (0,Value.none)).2)=es.toList.map (·.2):=by
     have:=xH (List.map (·.2)) (cf es);rw[xT]at this;exact this
    rw[h2]at h1;exact h1
   ·have e1:(s.heap.push (PyProof.Rows.seqObj "tuple" (ps.map λ(i:Nat)=>rawInt i).toArray 0)).objs.size=s.heap.objs.size+1:=JE;have:=Ry (A:=A') (I:=s.heap.objs.size+1) (S:=S) (T:=s.heap.objs.size) (ep:=ep) (c:=0) (prog:=prog) (w:=w) VH hf (wF (vQ bA)) (wF (xF _)) hp;show Walks prog w A' (s.heap.push (PyProof.Rows.seqObj "tuple" (ps.map λ(i:Nat)=>rawInt i).toArray 0)).objs.size _ [(s.heap.push (PyProof.Rows.seqObj "tuple" (ps.map λ(i:Nat)=>rawInt i).toArray 0)).objs.size] _ _ _;rw[e1];exact this
   ·have e2:=zS (s.heap.push (PyProof.Rows.seqObj "tuple" (ps.map λ(i:Nat)=>rawInt i).toArray 0)) (o:=wf (.ref s.heap.objs.size) 0 S es.size ep) rfl;rw[JE]at e2;exact e2
   ·exact zY _ (zY _ hS)
   ·exact⟨_,zY _ (zS _ rfl),rfl⟩
   ·rcases zL.mp fB with rfl|fB
    ·exact .inr (wK _)
    ·rcases zL.mp fB with rfl|fB
     ·exact .inl rfl
     ·rw[zX.mp fB];exact .inr (zT _)
  |false =>
   simp only[uP,Bool.false_eq_true,if_false];have hps:=Yi hf;have up:t.place.toList.Pairwise (·<·):=by
    cases dE:t.plain with
    |true=>exact BK dE
    |false =>
     rw[dE]at hd;have ET:t.place.toList.length<=1:=by
      rw[xQ,hps];simpa using hd
     match t.place.toList,ET with
     |[],_=>exact .nil
     |[a],_=>exact List.pairwise_singleton _ _
   refine GF (es.toList.map (·.2)) (λi=>if i=0 then 0 else t.place.getD (i-1) 0+1) rfl .rfl λi s' A' E' Q' hi HU q=>W7 HU hf hb hd BP ?_;have hb2:SetTable.below t.place (if i=0 then 0 else t.place.getD (i-1) 0+1)=i:=by
    have e0:t.place=t.place.toList.toArray:=by simp
    by_cases hi0:i=0
    ·subst hi0;rw[zG rfl,e0];exact V5 up
    ·rw[zM hi0];have hi1:i-1<t.place.toList.length:=by rw[xQ,hps];lia
     have:=V3 up hi1;have e1:t.place.toList[i-1]=t.place.getD (i-1) 0:=by
      have:i-1<t.place.size:=by lia
      simp[Array.getD,this]
     rw[e1]at this;have e2:t.place.toList.toArray=t.place:=by simp
     rw[e2]at this;rw[this];lia
   show Q' (match es[SetTable.below t.place (if i=0 then 0 else t.place.getD (i-1) 0+1)]?,t.place[SetTable.below t.place (if i=0 then 0 else t.place.getD (i-1) 0+1)]? with|some (_,x),some j=>some (x,j+1)|_,_=>none) s';rw[hb2]
   by_cases hlt':i<es.size
   ·have e1:es[i]?=some es[i]:=by simp[hlt']
    have AM:i<t.place.size:=by lia
    have e2:t.place[i]?=some t.place[i]:=by simp[AM]
    rw[e1,e2];have e3:(es.toList.map (·.2))[i]?=some es[i].2:=by simp[hlt']
    rw[e3]at q;have e4:t.place.getD i 0=t.place[i]:=by simp[Array.getD,AM]
    have q':Q' (some (es[i].2,t.place.getD i 0+1)) s':=q;rw[e4]at q';exact q'
   ·have e1:es[i]?=none:=by simp;lia
    rw[e1];have e3:(es.toList.map (·.2))[i]?=none:=by simp;lia
    rw[e3]at q;exact q
end
end My
namespace My
open PySem PySem.Spec PySem.W PySem.Calls
open PyProof.Rows hiding St
open Tb
section
variable {prog:Program}{w:World}{A:Around}{E:Value->Shared->Prop}{s:Shared}
theorem Qz{S:Addr}{Q:Bool->Shared->Prop}(hT:s.TypeIs (.ref S) "set")(h:Q false s):wpAny (model prog w) A (Builtin.List.listLengthHint (.ref S)) Q E s:=by
 unfold Builtin.List.listLengthHint;refine zZ (wpAny_specialOf hT F.slot_set_len.lookup ?_);generalize hid:("set.__len__":String)=id0
 wp_delta
 rw[show splitId id0=some ("set","__len__")from by subst hid;decide +kernel];subst hid;refine zZ (wpAny_isInstance (b:=true) (T:="set") hT sub_set_self (wpAny_ite_split (λz=>absurd z (by decide)) λ_=>?_));exact wpAny_ite_split (λ_=>zZ (uG hT (zW h))) λz=>absurd (by decide +kernel) z
theorem Xv{S l:Addr}{c:Nat}{es:Array (Int×Value)}{ep:Nat}{t:SetTable}{R:Result->Shared->Prop}{res:Value}(hh:A.handled=none)(hS:s.heap.get? S=some (y0 es ep t))(hf:t.fits es.size=true)(iX:t.led=!byT w)(BK:t.plain=true->t.place.toList.Pairwise (·<·))(hz:es.size<=sizeLine)
  (hl:s.heap.get? l=some { cls:=.type "list",data:=.seq #[] c }) (hR:∀h' d tk (ws:List Value) c',ws.Perm (es.toList.map (·.2))->(∀b o,b≠l->s.heap.get? b=some o->h'.get? b=some o)->h'.get? l=some { cls:=.type "list",dict:=none,data:=.seq ws.toArray c',slots:=#[] }->R (.ok (.ret res)) { s with heap:=h',drawn:=d,toks:=tk }) :
  wpAny (model prog w) A.in1 (Builtin.List.listExtendWith (.ref l) (.ref S) res) (λcJ s'=>match cJ with|.done f=>R (.ok f) s'|.again c'=>c'.quiet=true/\codeAny (model prog w) A c' R s') (λe s'=>R (.error e) s') s:=by
 have hT:s.TypeIs (.ref S) "set":=⟨_,hS,rfl⟩
 have hlS:l≠S:=by
  rintro rfl;have:=xH Obj.cls (yT (hS.symm.trans hl));simp at this
 unfold Builtin.List.listExtendWith;refine zZ (uG hT ?_);have n1:Builtin.List.listSameRef (.ref l) (.ref S)=false:=by simp[Builtin.List.listSameRef,hlS]
 have n2:(Value.type "set"==Value.type "list")=false:=by decide
 have n3:(Value.type "set"==Value.type "tuple")=false:=by decide
 simp only[n1,n2,n3,Bool.or_false,Bool.false_eq_true,if_false];refine zZ (Ot hS hf iX BK hz λI h1 d fp ws St hp W st hfp keep hI=>?_);have bA:l<s.heap.objs.size:=zU hl;have hlf:l∉fp:=λz=>by
  rcases hfp l z with e|e
  ·exact hlS e
  ·exact absurd bA (tT.mpr e)
 have key:∀(h:Heap)(c₁:Nat),St 0 h->(∀b o,b≠l->s.heap.get? b=some o->h.get? b=some o)->h.get? l=some { cls:=.type "list",data:=.seq #[] c₁ } ->
   codeAny (model prog w) A (.builtin "list.extend.loop" ⟨[.ref l,.ref I,res],[]⟩) R { s with heap:=h,drawn:=d }:=by
  intro h c₁ iL k' hl';refine codeAny_extend_loopS (W A.in1 hh).toS hz l hlf res es.size 0 { s with heap:=h,drawn:=d } #[] c₁ rfl (yJ _) iL hl' (ItemsOf.nil _) λs' cW c' hm he HR=>?_;rw[Moved.eq_with hm];have EK:cW=ws.toArray:=by
   apply xE.mp;have sK:ws.length=es.size:=by rw[hp.length_eq];simp
   apply List.ext_getElem?;intro i
   by_cases hi:i<es.size
   ·have bY:i<cW.size:=by rw[HR.1];exact hi
    have h3:cW[i]?=some cW[i]:=uE bY;have h4:=HR.2 i _ h3;rw[Array.getElem?_toList,h3];exact h4.symm
   ·rw[uW (by rw[xQ,HR.1];lia)];exact(uW (by show ws.length<=i;lia)).symm
  rw[EK]at he;refine hR s'.heap d s'.toks ws c' hp (λb o hb e=>hm.heap b o (λz=>?_) (k' b o hb e)) he;rcases zL.mp z with e'|z
  ·exact hb e'
  ·rw[zX.mp z]at e;exact absurd (zU e) (tT.mpr hI)
 have hT1:Shared.TypeIs { s with heap:=h1,drawn:=d } (.ref S) "set":=⟨_,keep _ _ hS,rfl⟩
 refine zZ (xD (Qz hT1 ?_));have sL:=keep _ _ hl;refine wpAny_ite_split (λ_=>?_) (λ_=>zW ⟨sZ F.plain_extend_loop _,key h1 c st (λb o _ e=>keep b o e) sL⟩);refine zZ (tB (zZ (show wpAny _ _ (updateSeq l (·.push .none) >>=λ_=>updateSeq l (·.pop)) _ _ _ from ?_)));refine zZ (wpAny_updateSeq sL rfl ?_);have sK:=yC (Obj.mapSeq (·.push Value.none)) sL rfl;refine wpAny_updateSeq (hz:=by seq_fits) sK rfl ?_;have hl3:=yC (Obj.mapSeq (·.pop)) sK rfl;refine zW ⟨sZ F.plain_extend_loop _,key _ _ ?_ (λb o hb e=>?_) hl3⟩
 ·refine(W A.in1 hh).frame 0 _ _ st λb hb o e=>?_;have fB:b≠l:=λz=>hlf (z▸hb);exact(yR _ _ (wU fB)).trans ((yR _ _ (wU fB)).trans e)
 ·exact(yR _ _ (wU hb)).trans ((yR _ _ (wU hb)).trans (keep b o e))
theorem Zd{S:Addr}{es:Array (Int×Value)}{ep:Nat}{t:SetTable}{R:List Value->Shared->Prop}(hh:A.handled=none)(hS:s.heap.get? S=some (y0 es ep t))(hf:t.fits es.size=true)(iX:t.led=!byT w)(BK:t.plain=true->t.place.toList.Pairwise (·<·))(hz:es.size<=sizeLine)
  (h:∀h' d tk (ws:List Value),ws.Perm (es.toList.map (·.2))->(∀b o,s.heap.get? b=some o->h'.get? b=some o)->s.heap.objs.size<h'.objs.size->R ws { s with heap:=h',drawn:=d,toks:=tk }):wpAny (model prog w) A (collect (.ref S)) R E s:=by
 unfold collect;refine zZ (wpAny_runValue (uZ entry_proto_collect' (by
  rw[vS F.plain_proto_collect _];refine(show wpAny _ A.in1 (newList [] >>=λl=>again (.builtin "list.__iadd__" ⟨[l,.ref S],[]⟩)) _ _ s from zZ (yE ?_));refine zW ⟨sZ F.plain_list_iadd _,uZ entry_list_iadd' ?_⟩;rw[vS F.plain_list_iadd _];refine(show wpAny _ A.in1 (Builtin.List.listExtendWith (.ref s.heap.objs.size) (.ref S) (.ref s.heap.objs.size)) _ _ _ from ?_);have hl:(s.heap.push { cls:=.type "list",data:=.seq ([]:List Value).toArray }).get? s.heap.objs.size=some { cls:=.type "list",data:=.seq #[] }:=zS _ rfl;have key:=Xv (prog:=prog) (A:=A) (s:={ s with heap:=s.heap.push { cls:=.type "list",data:=.seq ([]:List Value).toArray } }) (res:=.ref s.heap.objs.size)
   (R:=λq s'=>∃(h':Heap)(d:Drawn)(tk:Nat)(ws:List Value)(c':Nat),q = .ok (.ret (.ref s.heap.objs.size))/\s'={ s with heap:=h',drawn:=d,toks:=tk }/\ws.Perm (es.toList.map (·.2))/\(∀b o,s.heap.get? b=some o->h'.get? b=some o)/\h'.get? s.heap.objs.size=some { cls:=.type "list",dict:=none,data:=.seq ws.toArray c',slots:=#[] })
   hh (zY _ hS) hf iX BK hz hl λh' d tk ws c' hp k e=>⟨h',d,tk,ws,c',rfl,rfl,hp,λb o e'=>k b o (zC (zU e')) (zY _ e'),e⟩
  refine yN key (λcJ s' x=>?_) λe s' x=>?_
  ·cases cJ with
   |done f =>
    obtain⟨h',d,tk,ws,c',e,rfl,hp,k,el⟩:=x;cases e;exact(show wpAny _ A (load s.heap.objs.size >>= _) _ _ _ from zZ (wpAny_load el (zW (h h' d tk ws hp k (zU el)))))
   |again c₁ =>
    refine⟨x.1,vP x.2 λq s₂ y=>?_⟩;obtain⟨h',d,tk,ws,c',rfl,rfl,hp,k,el⟩:=y;exact(show wpAny _ A (load s.heap.objs.size >>= _) _ _ _ from zZ (wpAny_load el (zW (h h' d tk ws hp k (zU el)))))
  ·obtain⟨_,_,_,_,_,e',_⟩:=x;cases e')))
theorem k4{S:Addr}{es:Array (Int×Value)}{ep:Nat}{t:SetTable}{Q:Value->Shared->Prop}(hh:A.handled=none)(hS:s.heap.get? S=some (y0 es ep t))(hf:t.fits es.size=true)(iX:t.led=!byT w)(BK:t.plain=true->t.place.toList.Pairwise (·<·))(hz:es.size<=sizeLine)
  (h:∀D h' d tk (ws:List Value),ws.Perm (es.toList.map (·.2))->(∀b o,s.heap.get? b=some o->h'.get? b=some o)->s.heap.objs.size<=D->h'.get? D=some (seqObj "list" ws.toArray 0) ->
   wpAny (model prog w) A.in1 (call (.builtin "list.sort") [.ref D]) (λ_ s'=>Q (.ref D) s') E { s with heap:=h',drawn:=d,toks:=tk }):wpAny (model prog w) A (call (.builtin "sorted") [.ref S]) Q E s:=by
 refine call_function_entry kind_sorted plain_sorted entry_sorted (args_sorted1 _) (by
  unfold Builtin.«sorted»;refine zZ (m:=checkCount "sorted" 1 1 _) (zW (zZ (Zd (A:=A.in1) hh hS hf iX BK hz λh' d tk ws hp k ET=>?_)));have hl:ws.length=es.size:=by rw[hp.length_eq];simp
  refine zZ (wpAny_newList ?_ (by rw[hl];exact hz));have g:=h h'.objs.size (h'.push (seqObj "list" ws.toArray 0)) d tk ws hp (λb o e=>zY _ (k b o e)) (xO ET) (zS _ rfl);exact zZ (xD (yN g (λ_ s' x=>zW ⟨_,rfl,x⟩) λ_ _ e=>e)))
end
end My
namespace My
open PySem PySem.Spec PySem.W PySem.Calls
open Tb
theorem ef(t:SetTable)(n:Nat):(t.orStandIn n).led=t.led:=by unfold SetTable.orStandIn SetTable.standIn;split<;>rfl
theorem Wl(t:SetTable)(es:Array (Int×Value))(h:Int)(x:Value):(layNew t es h x).2.1.led=t.led:=by
 unfold layNew;split
 ·exact ef _ _
 ·rfl
theorem aj{t t':SetTable}{hs:Array Int}{n:Nat}{o:Array Nat}(h:t.relaid hs n=some (t',o)):t'.led=t.led/\t'.plain=t.plain:=by
 unfold SetTable.relaid SetTable.laid at h;cases hc:SetTable.layClean (SetTable.sizeAbove n-1) hs with
 |none=>rw[hc]at h;cases h
 |some ow =>
  rw[hc]at h;have h':=(Prod.mk.inj (yT h)).1;rw[<-h'];exact⟨rfl,rfl⟩
theorem ak(t:SetTable)(es:Array (Int×Value))(n:Nat):(relayAll t es n).2.1.led=t.led/\(t.plain=false->(relayAll t es n).2.1.plain=false):=by
 unfold relayAll;split
 ·rename_i t' o e;dsimp only;have:=aj e;split
  ·exact⟨this.1,λh=>this.2.trans h⟩
  ·exact⟨rfl,λ_=>rfl⟩
 ·exact⟨rfl,λ_=>rfl⟩
section
variable {prog:Program}{w:World}{A:Around}{E:Value->Shared->Prop}{s:Shared}
structure GoodS(w:World)(Es:List (Int×Value))(D:List Str):Prop where
 in1:∀e∈Es,∃x t,x∈D/\e=(hashStr w x,.str x t)
 in2:∀x∈D,∃t,(hashStr w x,.str x t)∈Es
 one:Es.Pairwise λe e'=>∀x t t',e.2 = .str x t->e'.2≠.str x t'
theorem GoodS.perm{Es Es':List (Int×Value)}{D:List Str}(g:GoodS w Es D)(p:Es'.Perm Es):GoodS w Es' D :=
 ⟨λe he=>g.in1 e (p.mem_iff.mp he),λx hx=>let⟨t,h⟩:=g.in2 x hx;⟨t,p.mem_iff.mpr h⟩,(p.pairwise_iff (λ{a b} qG x t t' h1 h2=>qG x t' t h2 h1)).mpr g.one⟩
theorem GoodS.elems{Es:List (Int×Value)}{D:List Str}(g:GoodS w Es D):ElemsOf (PySem.strKind prog w) Es:=λe he=>by
 obtain⟨x,t,_,rfl⟩:=g.in1 e he;exact⟨⟨x,by show Value.isStrOf x (.str x t)=true;simp[Value.isStrOf],rfl⟩,rfl⟩
theorem add_str{S:Addr}{ep:Nat}{es:Array (Int×Value)}{t:SetTable}{D:List Str}{x:Str}{tok:Tok}(hS:s.heap.get? S=some (y0 es ep t))(hf:t.fits es.size=true)(g:GoodS w es.toList D)(hb:es.size+1<scanBound)(dE:es.size≠0->t.plain=false){Q:Bool->Shared->Prop}
  (q:∀(b:Bool)(h':Heap)(tk:Nat)(eX:Array (Int×Value))(nV:Nat)(t':SetTable),h'.get? S=some (y0 eX nV t')->Heap.SameBut S s.heap h'->t'.fits eX.size=true->t'.led=t.led->(eX.size≠0->t'.plain=false)->GoodS w eX.toList (D++[x])->eX.size<=es.size+1->Q b { s with heap:=h',toks:=tk }) :
  wpAny (model prog w) A (setAdd S (.str x tok)) Q E s:=by
 have DE:(PySem.strKind prog w).is x (.str x tok)=true:=by show Value.isStrOf x (.str x tok)=true;simp[Value.isStrOf]
 unfold setAdd;refine xD (zZ ((PySem.strKind prog w).pyHash DE ?_));have HS:({ s with toks:=s.toks+1 }:Shared).heap.get? S=some (y0 es ep t):=hS;unfold setAddHashed setAddHashedIn;refine xD (zZ (xI HS rfl hf ?_));dsimp only;rw[byScan_of (knd:=PySem.strKind prog w) rfl (by lia) g.elems];simp only[if_true];unfold setAddByScan;refine zZ (zZ (tB (zZ (wpAny_setScan_of (knd:=PySem.strKind prog w) DE HS rfl hf g.elems ?_))));cases hr:List.findIdx? (λe=>(PySem.strKind prog w).is x e.2) es.toList with
 |some j =>
  dsimp only;obtain⟨hj,hpj,_⟩:=List.findIdx?_eq_some_iff_getElem.mp hr;refine zW (zW (q false s.heap _ es ep t hS (Heap.SameBut.refl S s.heap) hf rfl dE ⟨λe he=>?_,λy hy=>?_,g.one⟩ (wK _)))
  ·obtain⟨y,t',h1,h2⟩:=g.in1 e he;exact⟨y,t',yU _ h1,h2⟩
  ·rcases zK.mp hy with hy|hy
   ·exact g.in2 y hy
   ·rw[zX.mp hy];have hm:=wC hj;obtain⟨y',t',_,e⟩:=g.in1 _ hm;rw[e]at hpj;have:y'=x:=by
     have h5:Value.isStrOf x (.str y' t')=true:=hpj;simpa[Value.isStrOf]using h5
    subst this;exact⟨t',by rw[<-e];exact hm⟩
 |none =>
  dsimp only;have oN:∀e∈es.toList,∀t',e.2≠.str x t':=λe he t' z=>by
   have:=List.findIdx?_eq_none_iff.mp hr e he;rw[z]at this;have h5:Value.isStrOf x (.str x t')=false:=this;simp[Value.isStrOf]at h5
  have iE:=layNew_perm t es (hashStr w x) (.str x tok);have sM:=layNew_fits t es (hashStr w x) (.str x tok);have iX:=Wl t es (hashStr w x) (.str x tok);have hh:(PySem.strKind prog w).hash x=hashStr w x:=rfl;rw[hh];generalize hL:layNew t es (hashStr w x) (.str x tok)=L at iE sM iX ⊢;obtain⟨nO,t1,KL,gave⟩:=L;dsimp only at iE sM iX ⊢;rw[Array.toList_push]at iE;have bY:nO.size=es.size+1:=by
   have:=iE.length_eq;simpa using this
  have good:GoodS w nO.toList (D++[x]):=by
   refine GoodS.perm (Es:=(hashStr w x,Value.str x tok)::es.toList) ⟨λe he=>?_,λy hy=>?_,vF.mpr ⟨λe he y t1 t2 h1 h2=>?_,g.one⟩⟩ (iE.trans (List.perm_append_singleton _ _))
   ·rcases zL.mp he with rfl|he
    ·exact⟨x,tok,zQ _ (zX.mpr rfl),rfl⟩
    ·obtain⟨y,t',h1,h2⟩:=g.in1 e he;exact⟨y,t',yU _ h1,h2⟩
   ·rcases zK.mp hy with hy|hy
    ·obtain⟨t',h⟩:=g.in2 y hy;exact⟨t',zO _ h⟩
    ·rw[zX.mp hy];exact⟨tok,zD⟩
   ·cases h1;exact oN e he t2 h2
  have hgw:∀(b:Bool)(s₁:Shared)(Q':Unit->Shared->Prop),Q' () s₁->wpAny (model prog w) A (match b with|true=>rule "set.scan.the-table-gave-way" | false=>pure ()) Q' E s₁:=λb s₁ Q' hq=>by
   cases b
   ·exact zW hq
   ·exact tB hq
  have KP:∀t2:SetTable,t2.fits nO.size=true->t2.led=t.led->t2.plain=false->∀(R:Option Bool->Shared->Prop),(∀h' eX nV t',h'.get? S=some (y0 eX nV t')->Heap.SameBut S s.heap h'->t'.fits eX.size=true->t'.led=t.led->t'.plain=false->eX.toList.Perm nO.toList->R (some true) { s with heap:=h',toks:=s.toks+1 }) ->
    wpAny (model prog w) A (do
     storeSet S nO t2
     if(!KL&&t2.tooFull)=true then do
      (match(relayAll t2 nO (SetTable.grown nO.size)).2.2 with|true=>rule "set.scan.the-table-gave-way" | false=>pure ())
      storeSet S (relayAll t2 nO (SetTable.grown nO.size)).1 (relayAll t2 nO (SetTable.grown nO.size)).2.1
      pure (some true)
     else pure (some true)) R E { s with toks:=s.toks+1 }:=by
   intro t2 f2 l2 p2 R hR;refine zZ (rj HS (fits_of_scanBound (by rw[bY];exact hb)) λh1 hS2 GL=>?_);split
   ·have HD:=relayAll_perm t2 nO (SetTable.grown nO.size);have hf2:=relayAll_fits t2 nO (SetTable.grown nO.size);obtain⟨sK,hpl2⟩:=ak t2 nO (SetTable.grown nO.size);have qW:(relayAll t2 nO (SetTable.grown nO.size)).1.size=nO.size:=by
     have:=HD.length_eq;simpa using this
    refine zZ (hgw _ _ _ (zZ (rj (s:={ s with heap:=h1,toks:=s.toks+1 }) hS2 (fits_of_scanBound (by rw[qW,bY];exact hb)) λh2 hS3 sb2=>zW ?_)));exact hR h2 _ _ _ hS3 (GL.trans sb2) hf2 (sK.trans l2) (hpl2 p2) HD
   ·exact zW (hR h1 nO _ t2 hS2 GL f2 l2 p2 .rfl)
  have cJ:∀h' eX nV t',h'.get? S=some (y0 eX nV t')->Heap.SameBut S s.heap h'->t'.fits eX.size=true->t'.led=t.led->t'.plain=false->eX.toList.Perm nO.toList->Q true { s with heap:=h',toks:=s.toks+1 }:=λh' eX nV t' e1 e2 e3 e4 e5 e6=>by
   refine q true h' _ eX nV t' e1 e2 e3 e4 (λ_=>e5) (good.perm e6) ?_;have:=e6.length_eq;simp at this;lia
  refine zZ (hgw _ _ _ ?_);split
  ·rw[hashByValue_scannable 8 (x:=.str x tok) rfl];refine zZ (zW ?_);simp only[plainKind,Bool.false_eq_true,if_false];exact KP { t1 with plain:=false } (SetTable.fits_plain_off sM) iX rfl _ λh' eX nV t' e1 e2 e3 e4 e5 e6=>zW (cJ h' eX nV t' e1 e2 e3 e4 e5 e6)
  ·rename_i AM;refine zZ (zW ?_);simp only[if_true];exact KP t1 sM iX (by simpa using AM) _ λh' eX nV t' e1 e2 e3 e4 e5 e6=>zW (cJ h' eX nV t' e1 e2 e3 e4 e5 e6)
end
end My
namespace My
open PySem PySem.Spec PySem.W PySem.Calls
open PyProof.Rows hiding St
namespace Srt
variable {O:KeyOrd}{key:Nat->O.α}{n:Nat}
def Ok{α:Type}(key:Nat->O.α)(n:Nat):KasT α->(α->Prop)->Prop
 | .ret a,P=>P a
 | .ask i j k,P=>i<n/\j<n/\Ok key n (k (O.blt (key i) (key j))) P
theorem Ok.mono{α:Type}{P P':α->Prop}(hp:∀a,P a->P' a):∀{t:KasT α},Ok key n t P->Ok key n t P'
 | .ret a,h=>hp a h
 | .ask i j k,h=>⟨h.1,h.2.1,Ok.mono hp h.2.2⟩
theorem Ok.bind{α β:Type}{f:α->KasT β}{P:β->Prop}:∀{t:KasT α},Ok key n t (λa=>Ok key n (f a) P)->Ok key n (t.bind f) P
 | .ret a,h=>h
 | .ask i j k,h=>⟨h.1,h.2.1,Ok.bind h.2.2⟩
theorem Ok.wp{α:Type}{cmp:Nat->Nat->(Bool->Shared->Prop)->Shared->Prop}{P:α->Prop}{Q:α->Shared->Prop}{s:Shared}(hc:∀i j C,i<n->j<n->C (O.blt (key i) (key j)) s->cmp i j C s)(hq:∀a,P a->Q a s):∀{t:KasT α},Ok key n t P->t.kasWp cmp Q s
 | .ret a,h=>hq a h
 | .ask i j k,h=>hc i j _ h.1 h.2.1 (Ok.wp hc hq h.2.2)
def K(key:Nat->O.α)(p:Array Nat)(i:Nat):O.α:=key (p.getD i 0)
structure All(n:Nat)(p:Array Nat):Prop where
 pm:p.toList.Perm (List.range n)
theorem All.size{p:Array Nat}(a:All n p):p.size=n:=by
 have:=a.pm.length_eq;simpa using this
theorem All.lt{p:Array Nat}(a:All n p)(hn:0<n)(i:Nat):p.getD i 0<n:=by
 by_cases hi:i<p.size
 ·have e:p.getD i 0=p[i]:=by simp[Array.getD,hi]
  rw[e];have:p[i]∈p.toList:=by simp
  exact xL.mp (a.pm.mem_iff.mp this)
 ·have e:p.getD i 0=0:=by simp[Array.getD,hi]
  rw[e];exact hn
theorem All.of{p p':Array Nat}(a:All n p)(h:p'.Perm p):All n p':=⟨(Array.perm_iff_toList_perm.mp h).trans a.pm⟩
theorem tq{p:Array Nat}{i:Nat}:p.getD i 0=(p[i]?).getD 0:=by
 by_cases hi:i<p.size
 ·simp[Array.getD,hi]
 ·simp[Array.getD,hi]
theorem N2{p:Array Nat}{i j:Nat}(hj:j<=p.size)(k:Nat):K key (kas_rev p i j) k=if i<=k/\k<j then K key p (i+j-1-k)else K key p k:=by
 have e:=getElem?_mirror_all (xs:=p) (i:=i) hj k;unfold K kas_rev;rw[tq,e];split
 ·rw[<-tq]
 ·rw[<-tq]
theorem Kf{p:Array Nat}{AJ d:Nat}(hs:AJ<p.size)(hd:d<=AJ)(k:Nat):K key (bubble p AJ d) k=if k=AJ-d then K key p AJ else if AJ-d<k/\k<=AJ then K key p (k-1)else K key p k:=by
 have e:=getElem?_bubble hs d hd k;unfold K;rw[tq,e]
 by_cases h1:k=AJ-d
 ·rw[zG h1,zG h1,<-tq]
 ·rw[zM h1,zM h1]
  by_cases h2:AJ-d<k/\k<=AJ
  ·rw[zG h2,zG h2,<-tq]
  ·rw[zM h2,zM h2,<-tq]
def Up(key:Nat->O.α)(p:Array Nat)(m:Nat):Prop:=∀i j,i<=j->j<m->O.kle (K key p i) (K key p j)
def Dn(key:Nat->O.α)(p:Array Nat)(m:Nat):Prop:=∀i j,i<=j->j<m->O.kle (K key p j) (K key p i)
theorem Up.step{p:Array Nat}{m:Nat}(h:Up key p m)(h1:1<=m)(hc:O.kle (K key p (m-1)) (K key p m)):Up key p (m+1):=λi j pL hj=>by
 by_cases e:j=m
 ·subst e
  by_cases e2:i=j
  ·subst e2;exact wO _
  ·exact uK (h i (j-1) (by lia) (by lia)) hc
 ·exact h i j pL (by lia)
theorem Dn.step{p:Array Nat}{m:Nat}(h:Dn key p m)(h1:1<=m)(hc:O.kle (K key p m) (K key p (m-1))):Dn key p (m+1):=λi j pL hj=>by
 by_cases e:j=m
 ·subst e
  by_cases e2:i=j
  ·subst e2;exact wO _
  ·exact uK hc (h i (j-1) (by lia) (by lia))
 ·exact h i j pL (by lia)
theorem Xe{p:Array Nat}(a:All n p)(hn:0<n):∀(f m:Nat),1<=m->Up key p m->Ok key n (kas_asc p f m) λr=>m<=r/\r<=m+f/\Up key p r/\(r=m+f\/O.klt (K key p r) (K key p (r-1)))
 |0,m,h1,h=>⟨zT _,zT _,h,.inl rfl⟩
 |f+1,m,h1,h=>by
  refine⟨a.lt hn _,a.lt hn _,?_⟩;cases hc:O.blt (key (p.getD m 0)) (key (p.getD (m-1) 0))with
  |true=>exact⟨zT _,by lia,h,.inr hc⟩
  |false =>
   (try dsimp only);rw[zM zH]
   refine Ok.mono (λr hr=>?_) (Xe a hn f (m+1) (by lia) (h.step h1 hc));exact⟨by lia,by lia,hr.2.2.1,hr.2.2.2.imp (λe=>by lia) id⟩
theorem km{p:Array Nat}{i j:Nat}(hj:j<=p.size)(he:∀k,i<=k->k<j->K key p k=K key p (j-1))(k:Nat):K key (kas_rev p i j) k=K key p k:=by
 rw[N2 hj];split
 ·rw[he _ (by lia) (by lia),he k (by lia) (by lia)]
 ·rfl
theorem pe{p:Array Nat}(a:All n p)(i j:Nat):All n (kas_rev p i j):=a.of (mirror_perm _ _ _ _)
theorem ma(hn:0<n):∀(f:Nat)(p:Array Nat)(m q:Nat),All n p->1<=m->m+f<=n->q+1<=m->Dn key p m->(∀k,m-(q+1)<=k->k<m->K key p k=K key p (m-1)) ->
  Ok key n (kas_desc f p m q) λr=>All n r.1/\m<=r.2.1/\r.2.1<=m+f/\r.2.2+1<=r.2.1/\Dn key r.1 r.2.1/\∀k,r.2.1-(r.2.2+1)<=k->k<r.2.1->K key r.1 k=K key r.1 (r.2.1-1)
 |0,p,m,q,a,h1,hf,hq,hd,he=>⟨a,zT _,zT _,hq,hd,he⟩
 |f+1,p,m,q,a,h1,hf,hq,hd,he=>by
  refine⟨a.lt hn _,a.lt hn _,?_⟩;cases hc:O.blt (key (p.getD m 0)) (key (p.getD (m-1) 0))with
  |true =>
   (try dsimp only);rw[zG rfl]
   have EL:Dn key p (m+1):=hd.step h1 (tK hc);split
   ·have jS:=km (key:=key) (p:=p) (i:=m-(q+1)) (j:=m) (by rw[a.size];lia) he;refine Ok.mono (λr hr=>⟨hr.1,by lia,by lia,hr.2.2.2⟩) (ma hn f (kas_rev p (m-(q+1)) m) (m+1) 0 (pe a _ _) (by lia) (by lia) (by lia) (λi j pL hj=>?_) λk h1 h2=>?_)
    ·rw[jS,jS];exact EL i j pL hj
    ·have:k=m+1-1:=by lia
     rw[this]
   ·refine Ok.mono (λr hr=>⟨hr.1,by lia,by lia,hr.2.2.2⟩) (ma hn f p (m+1) 0 a (by lia) (by lia) (by lia) EL λk h1 h2=>?_);have:k=m+1-1:=by lia
    rw[this]
  |false =>
   (try dsimp only);rw[zM zH]
   refine⟨a.lt hn _,a.lt hn _,?_⟩;cases BV:O.blt (key (p.getD (m-1) 0)) (key (p.getD m 0))with
   |true =>
    (try dsimp only);rw[zG rfl]
    exact⟨a,zT _,(by show m<=m+(f+1);lia),hq,hd,he⟩
   |false =>
    (try dsimp only);rw[zM zH]
    have HL:K key p m=K key p (m-1):=O.total _ _ hc BV;refine Ok.mono (λr hr=>⟨hr.1,by lia,by lia,hr.2.2.2⟩) (ma hn f p (m+1) (q+1) a (by lia) (by lia) (by lia) (hd.step h1 (by rw[HL];exact wO _)) λk h1 h2=>?_);rw[show m+1-1=m by lia]
    by_cases e:k=m
    ·rw[e]
    ·rw[he k (by lia) (by lia),HL]
def Run(key:Nat->O.α)(n:Nat)(r:Nat×Array Nat):Prop:=All n r.2/\1<=r.1/\r.1<=n/\Up key r.2 r.1
theorem Y6(hn:0<n){p:Array Nat}{m:Nat}(a:All n p)(h1:1<=m)(hm:m<=n)(hd:Dn key p m):Ok key n (kas_tail3 m n p) (Run key n):=by
 unfold kas_tail3;refine Ok.bind (Ok.mono (λr hr=>?_) (Xe (pe a 0 m) hn (n-m) m h1 λi j pL hj=>?_))
 ·exact⟨pe a 0 m,by lia,by lia,hr.2.2.1⟩
 ·have hs:m<=p.size:=by rw[a.size];exact hm
  rw[N2 hs,N2 hs,zG ⟨by lia,by lia⟩,zG ⟨by lia,by lia⟩];exact hd _ _ (by lia) (by lia)
theorem nh(hn:0<n){p:Array Nat}{m:Nat}(a:All n p)(h1:1<=m)(hm:m<n)(hd:Dn key p (m+1)):Ok key n (kas_descPart m n p) (Run key n):=by
 unfold kas_descPart;refine Ok.bind (Ok.mono (λr hr=>?_) (ma hn (n-(m+1)) p (m+1) 0 a (by lia) (by lia) (by lia) hd λk h1 h2=>by rw[show k=m+1-1 by lia]));obtain⟨r1,r2,r3⟩:=r;obtain⟨a',b1,b2,b3,b4,b5⟩:=hr;dsimp only at a' b1 b2 b3 b4 b5 ⊢;split
 ·have jS:=km (key:=key) (p:=r1) (i:=r2-(r3+1)) (j:=r2) (by rw[a'.size];lia) b5;exact Y6 hn (pe a' _ _) (by lia) (by lia) λi j pL hj=>by rw[jS,jS];exact b4 i j pL hj
 ·exact Y6 hn a' (by lia) (by lia) b4
theorem Pu{p:Array Nat}(a:All n p)(hn:0<n):Ok key n (kas_count n p) (Run key n):=by
 unfold kas_count;refine Ok.bind (Ok.mono (λr hr=>?_) (Xe a hn (n-1) 1 (zT _) λi j pL hj=>by
  have:i=j:=by lia
  subst this;exact wO _))
 obtain⟨h1,h2,h3,h4⟩:=hr
 by_cases e:r=n
 ·subst e;simp only[uJ,if_true];exact⟨a,h1,zT _,h3⟩
 ·have e':(r==n)=false:=by simpa using e
  simp only[e',Bool.false_eq_true,if_false];have bA:r<n:=by lia
  have KA:O.klt (K key p r) (K key p (r-1)):=by
   rcases h4 with h4|h4
   ·lia
   ·exact h4
  split
  ·refine⟨a.lt hn _,a.lt hn _,?_⟩;cases hc:O.blt (key (p.getD 0 0)) (key (p.getD (r-1) 0))with
   |true =>
    (try dsimp only);rw[zG rfl]
    exact⟨a,h1,by lia,h3⟩
   |false =>
    (try dsimp only);rw[zM zH]
    have HL:∀k,0<=k->k<r->K key p k=K key p (r-1):=λk _ hk=>by
     refine KeyOrd.kle_antisymm (h3 k (r-1) (by lia) (by lia)) ?_;exact uK (show O.kle (K key p (r-1)) (K key p 0)from hc) (h3 0 k (by lia) hk)
    have jS:=km (key:=key) (p:=p) (i:=0) (j:=r) (by rw[a.size];lia) HL;refine nh hn (pe a 0 r) h1 bA λi j pL hj=>?_;rw[jS,jS]
    by_cases ej:j=r
    ·subst ej
     by_cases ei:i=j
     ·subst ei;exact wO _
     ·rw[HL i (by lia) (by lia)];exact tK KA
    ·rw[HL i (by lia) (by lia),HL j (by lia) (by lia)];exact wO _
  ·have nL:r=1:=by lia
   subst nL;refine nh hn a (zT _) bA λi j pL hj=>?_
   by_cases ei:i=j
   ·subst ei;exact wO _
   ·have hi:i=0:=by lia
    have hj:j=1:=by lia
    subst hi hj;exact tK KA
theorem kg{p:Array Nat}(a:All n p)(hn:0<n)(k:Nat)(hk:k<n)(hu:Up key p k):∀(f l r:Nat),l<=r->r<=k->r-l<=f->(∀i,i<l->O.kle (K key p i) (K key p k))->(∀i,r<=i->i<k->O.klt (K key p k) (K key p i)) ->
  Ok key n (kas_place p k f l r) λl'=>l'<=k/\(∀i,i<l'->O.kle (K key p i) (K key p k))/\(∀i,l'<=i->i<k->O.klt (K key p k) (K key p i))
 |0,l,r,h1,h2,h3,h4,h5=>⟨by lia,h4,λi hi=>h5 i (by lia)⟩
 |f+1,l,r,h1,h2,h3,h4,h5=>by
  unfold kas_place;split
  ·exact⟨by lia,h4,λi hi=>h5 i (by lia)⟩
  ·refine⟨a.lt hn _,a.lt hn _,?_⟩;cases hc:O.blt (key (p.getD k 0)) (key (p.getD ((l+r) / 2) 0))with
   |true =>
    (try dsimp only);rw[zG rfl]
    exact kg a hn k hk hu f l ((l+r) / 2) (by lia) (by lia) (by lia) h4 λi hi hik=>KeyOrd.klt_of_klt_of_kle hc (hu _ _ hi hik)
   |false =>
    (try dsimp only);rw[zM zH]
    exact kg a hn k hk hu f ((l+r) / 2+1) r (by lia) h2 (by lia) (λi hi=>uK (hu i ((l+r) / 2) (by lia) (by lia)) (show O.kle (K key p ((l+r) / 2)) (K key p k)from hc)) h5
theorem Pr(hn:0<n):∀(f:Nat)(p:Array Nat)(k:Nat),All n p->k+f=n->Up key p k->Ok key n (kas_bin f p k) λr=>All n r/\Up key r n
 |0,p,k,a,hk,hu=>⟨a,by rw[<-hk];exact hu⟩
 |f+1,p,k,a,hk,hu=>by
  have hkn:k<n:=by lia
  refine Ok.bind (Ok.mono (λl hl=>?_) (kg a hn k hkn hu k 0 k (yJ _) (zT _) (by lia) (λi hi=>by lia) (λi h1 h2=>by lia)));obtain⟨hlk,ES,hhi⟩:=hl;have hs:k<p.size:=by rw[a.size];exact hkn
  refine Pr hn f (bubble p k (k-l)) (k+1) (a.of (bubble_perm _ _ _)) (by lia) λi j pL hj=>?_;rw[Kf hs (by lia),Kf hs (by lia),show k-(k-l)=l by lia]
  by_cases ei:i=l
  ·rw[zG ei]
   by_cases ej:j=l
   ·rw[zG ej];exact wO _
   ·rw[zM ej,zG ⟨by lia,by lia⟩];exact tK (hhi _ (by lia) (by lia))
  ·rw[zM ei]
   by_cases ei2:l<i/\i<=k
   ·rw[zG ei2,zM (by lia),zG ⟨by lia,by lia⟩];exact hu _ _ (by lia) (by lia)
   ·rw[zM ei2];have UT:i<l:=by lia
    by_cases ej:j=l
    ·rw[zG ej];exact ES i UT
    ·rw[zM ej]
     by_cases ej2:l<j/\j<=k
     ·rw[zG ej2];exact hu _ _ (by lia) (by lia)
     ·rw[zM ej2];exact hu _ _ pL (by lia)
theorem ok_sort(hn:0<n):Ok key n (kas_sort n) λr=>All n r/\Up key r n:=by
 unfold kas_sort;have a0:All n (List.toArray (List.range n)):=⟨.rfl⟩
 refine Ok.bind (Ok.mono (λr hr=>?_) (Pu a0 hn));obtain⟨m,p⟩:=r;obtain⟨a,h1,h2,h3⟩:=hr;dsimp only at a h1 h2 h3 ⊢;split
 ·rw[show max m 1=m by lia];exact Pr hn (n-m) p m a (by lia) h3
 ·have:m=n:=by lia
  subst this;exact⟨a,h3⟩
end Srt
end My
namespace My
open PySem PySem.Spec PySem.W PySem.Calls
open PyProof.Rows hiding St
section
variable {prog:Program}{w:World}{A:Around}{E:Value->Shared->Prop}{s:Shared}
theorem Z8{D:Addr}{vs:List Value}{n0:Nat}{P:PySem.Fin->Shared->Prop}(ho:s.heap.get? D=some (seqObj "list" vs.toArray n0))(KH:vs.length<64){O:KeyOrd}(key:Nat->O.α)(κ:SortKind)
  (hk:2<=vs.length->∀(s1:Shared)(Q':SortKind->Shared->Prop)(E':Value->Shared->Prop),(∀b o,b≠D->s.heap.get? b=some o->s1.heap.get? b=some o)->Q' κ s1->wpAny (model prog w) A (keyKind' vs.toArray) Q' E' s1)
  (hc:∀(s1:Shared)(i j:Nat)(C:Bool->Shared->Prop)(E':Value->Shared->Prop),(∀b o,b≠D->s.heap.get? b=some o->s1.heap.get? b=some o)->i<vs.length->j<vs.length->C (O.blt (key i) (key j)) s1->wpAny (model prog w) A (keyLt' κ (vs.getD i Value.none) (vs.getD j Value.none)) C E' s1)
  (h:∀(p:Array Nat)(h':Heap)(e:Nat),Srt.All vs.length p->Srt.Up key p vs.length->(∀b o,b≠D->s.heap.get? b=some o->h'.get? b=some o)->h'.get? D=some (seqObj "list" (p.toList.map λi=>vs.getD i Value.none).toArray e)->P (.done (.ret .none)) { s with heap:=h' }) :
  wpAny (model prog w) A (Builtin.«list.sort» ⟨[.ref D],[]⟩) P E s:=by
 have hD:D<s.heap.objs.size:=zU ho;obtain⟨e1,ho1⟩:∃e1,(s.heap.update D (Obj.mapSeq λ_=>(#[]:Array Value))).get? D=some (seqObj "list" #[] e1):=⟨_,get?_update_seq ho λ_=>#[]⟩
 rw[list_sort_plain];refine zZ (listItems_at ho rfl (zZ (listUpdate_at ho rfl (zZ (seqEpoch_at ho1 rfl (zZ (wpAny_newTuple (zZ (wpAny_newList (xD ?_) (yJ _))) (by show vs.length<=_;rw[yZ];lia))))) (by rw[zN,yZ];lia) (yJ _))));generalize hH:((s.heap.update D (Obj.mapSeq λ_=>(#[]:Array Value))).push (seqObj "tuple" vs.toArray 0)).push (seqObj "list" #[] 0)=H3;have keep:∀b o,b≠D->s.heap.get? b=some o->H3.get? b=some o:=λb o hb e=>by
  rw[<-hH];exact zY _ (zY _ ((yR _ _ (wU hb)).trans e))
 have UL:H3.get? D=some (seqObj "list" #[] e1):=by
  rw[<-hH];exact zY _ (zY _ ho1)
 have cJ:∀(p:Array Nat),Srt.All vs.length p->Srt.Up key p vs.length->P (.done (.ret .none)) { s with heap:=H3.update D (Obj.mapSeq λ_=>List.toArray (p.toList.map λi=>vs.getD i Value.none)) }:=λp hp hu =>
  h p _ _ hp hu (λb o hb e=>(yR _ _ (wU hb)).trans (keep b o hb e)) (get?_update_seq UL λ_=>List.toArray (p.toList.map λi=>vs.getD i Value.none))
 refine(show wpAny (model prog w) A _ P E { s with heap:=H3 }from ?_);dsimp only;have bY:vs.toArray.size=vs.length:=zN
 by_cases h2:vs.toArray.size<2
 ·rw[zG h2,zG h2];refine zZ (zW ?_);rw[StateT.run_pure];refine zZ (zW ?_);dsimp only;have hid:(arrOf (SortSt.mk' general' (vs.toArray.zip vs.toArray) #[] 7 none)).map (·.2)=List.toArray ((List.range vs.length).map λi=>vs.getD i Value.none):=by
   show(vs.toArray.zip vs.toArray).map (·.2)=_;apply xE.mp;apply uM
   ·simp
   ·intro i a1 a2;have hi:i<vs.length:=by simpa using a2
    simp[hi]
  refine zZ (seqEpoch_at UL rfl ?_);rw[hid];refine zZ (listUpdate_at UL rfl ?_ (yJ _) (by rw[zN,zV,tL,yZ];lia));simp only[bne_self_eq_false,Bool.false_eq_true,if_false];refine zW ?_;have:=cJ (List.toArray (List.range vs.length)) ⟨.rfl⟩ λi j pL hj=>by
   have:i=j:=by lia
   subst this;exact wO _
  exact this
 ·rw[zM h2,zM h2];have rA:2<=vs.length:=by lia
  refine zZ (hk rA { s with heap:=H3 } _ _ keep ?_);have ask:(kas_sort vs.length).kasWp (kas_ask prog w A κ vs) (λp s'=>s'={ s with heap:=H3 }/\Srt.All vs.length p/\Srt.Up key p vs.length) { s with heap:=H3 } :=
   Srt.Ok.wp (λi j C hi hj q=>hc { s with heap:=H3 } i j C _ keep hi hj q) (λp hp=>⟨rfl,hp.1,hp.2⟩) (Srt.ok_sort (by lia))
  refine zZ (yN (kat_run (Q:=λiL s'=>∃p:Array Nat,arrOf iL=p.map (kas_item (vs.toArray.zip vs.toArray))/\failedOf iL=none/\s'={ s with heap:=H3 }/\Srt.All vs.length p/\Srt.Up key p vs.length) rfl rA KH (λp iL s' _ a2 a3 a4=>⟨p,a2,a3,a4⟩) ask) ?_ λ_ _ e=>e);rintro⟨⟨⟩,iL⟩ s' ⟨p,har,hf,rfl,hp,hu⟩;dsimp only;rw[kat_snds rfl har];refine zZ (seqEpoch_at UL rfl (zZ (listUpdate_at UL rfl ?_ (yJ _) ?_)))
  ·rw[hf];simp only[bne_self_eq_false,Bool.false_eq_true,if_false];exact zW (cJ p hp hu)
  ·have:=hp.size;rw[zN,zV,xQ,this,yZ];lia
end
end My
namespace My
open PySem PySem.Spec PySem.W PySem.Calls
open PyProof.Rows hiding St
def xy:List Bool->List Bool->Bool
 |[],[]=>false
 |[],_::_=>true
 |_::_,[]=>false
 |a::x,b::y=>if a=b then xy x y else !a&&b
theorem mw:∀a,xy a a=false
 |[]=>rfl
 |a::x=>by rw[xy,zG rfl];exact mw x
theorem fz:∀a b c,xy a b=true->xy b c=true->xy a c=true
 |[],[],_,h,_=>by simp[xy]at h
 |[],_::_,[],_,h=>by simp[xy]at h
 |[],_::_,_::_,_,_=>rfl
 |_::_,[],_,h,_=>by simp[xy]at h
 |_::_,_::_,[],_,h=>by simp[xy]at h
 |a::x,b::y,c::z,h1,h2=>by
  have ih:=fz x y z;cases a<;>cases b<;>cases c<;>simp[xy]at h1 h2 ⊢<;>exact ih h1 h2
theorem Yx:∀a b c,xy a c=true->xy a b=true\/xy b c=true
 |[],[],[],h=>by simp[xy]at h
 |[],[],_::_,_=>.inr rfl
 |[],_::_,_,_=>.inl rfl
 |_::_,_,[],h=>by simp[xy]at h
 |_::_,[],_::_,_=>.inr rfl
 |a::x,b::y,c::z,h=>by
  have ih:=Yx x y z;cases a<;>cases b<;>cases c<;>simp[xy]at h ⊢<;>exact ih h
theorem pv:∀a b,xy a b=false->xy b a=false->a=b
 |[],[],_,_=>rfl
 |[],_::_,h,_=>by simp[xy]at h
 |_::_,[],_,h=>by simp[xy]at h
 |a::x,b::y,h1,h2=>by
  have ih:=pv x y;cases a<;>cases b<;>simp[xy]at h1 h2 ⊢<;>exact ih h1 h2
def Bs:KeyOrd where
 α:=List Bool
 blt:=xy
 irrefl:=mw
 trans:=fz
 negTrans:=Yx
 total:=pv
section
variable {prog:Program}{w:World}{A:Around}{E:Value->Shared->Prop}{s:Shared}
theorem Ih{a b:Bool}{Q:Bool->Shared->Prop}(h:Q (decide (b2i a<b2i b)) s):wpAny (model prog w) A (oneLt' true (.bool a) (.bool b)) Q E s:=by
 rw[oneLt'_eq];simp only[if_true];refine zZ (wpAny_cRoomFor_byValue rfl (zZ (wpAny_callSpecialIfBound?_slot (T:="bool") rfl F.slot_bool_lt (call_gives F.slot_bool_lt rfl F.entry_int_lt (F.args_int_lt_2 _ _) (gives_int_lt_bools a b) ?_))));exact wJ h
theorem Od{a b:Bool}(h:a≠b):decide (b2i a<b2i b)=(!a&&b):=by cases a<;>cases b<;>first|rfl|exact absurd rfl h
theorem o7:∀{k:List Bool}{vs:List Value},ItemsAre (fm prog w) k vs->vs=k.map Value.bool
 |_,_,.nil=>rfl
 |_,_,.cons h r=>by rw[xu h,o7 r];rfl
theorem O5(b cJ:Bool){Q:Bool->Shared->Prop}:∀(x y:List Bool)(i:Nat),cJ=decide (x.length<y.length)->Q (xy x y) s->KatLex prog w A b cJ Q ((x.map Value.bool).zip (y.map Value.bool)) i s
 |[],[],i,hf,h=>kat_nil (by rw[hf];exact h)
 |[],_::_,i,hf,h=>kat_nil (by rw[hf];simpa[xy]using h)
 |_::_,[],i,hf,h=>kat_nil (by rw[hf];simpa[xy]using h)
 |a::x,c::y,i,hf,h=>by
  refine kat_cons (SeqAt.EqAt.bool_bool a c _ _ _ _ ?_)
  by_cases e:a=c
  ·subst e;have e2:(a==a)=true:=by simp
   rw[e2];refine kat_yes (O5 b cJ x y (i+1) (by rw[hf];simp) ?_);rw[xy,zG rfl]at h;exact h
  ·have e2:(a==c)=false:=by simpa using e
   rw[e2];refine kat_no ?_;rw[xy,zM e]at h;cases hb:(b&&i==0)with
   |true=>exact Ih (by rw[Od e];exact h)
   |false=>exact kat_one _ _ (lt_bool (by rw[Od e];exact h))
theorem Lq{x y:Addr}{kx ky:List Bool}(b:Bool){C:Bool->Shared->Prop}(hx:Bt prog w s.heap kx x)(hy:Bt prog w s.heap ky y)(h:C (xy kx ky) s):wpAny (model prog w) A (keyLt' (tuples' b) (.ref x) (.ref y)) C E s:=by
 obtain⟨ox,ix,nx,e1,_,d1,i1⟩:=hx;obtain⟨oy,iy,ny,e2,_,d2,i2⟩:=hy;refine kat_lt e1 d1 e2 d2 ?_;have h1:=o7 i1;have h2:=o7 i2;have l1:ix.size=kx.length:=by rw[<-xQ,h1,zV]
 have l2:iy.size=ky.length:=by rw[<-xQ,h2,zV]
 rw[h1,h2,l1,l2];exact O5 b _ kx ky 0 rfl h
theorem mr:∀(R:List (Addr×List Bool)),(∀r∈R,Bt prog w s.heap r.2 r.1/\r.2≠[])->∃fs:List Value,KatTups s.heap (R.map λr=>Value.ref r.1) fs/\fs.length=R.length/\∀v∈fs,∃b,v = .bool b
 |[],_=>⟨[],.nil,rfl,λv hv=>by simp at hv⟩
 |r::R,h=>by
  obtain⟨fs,h1,h2,h3⟩:=mr R λq hq=>h q (zO _ hq);obtain⟨⟨o,aJ,n,ho,hc,hd,hi⟩,iF⟩:=h r zD;have e:=o7 hi;cases hk:r.2 with
  |nil=>exact absurd hk iF
  |cons b k =>
   rw[hk,List.map_cons]at e;refine⟨.bool b::fs,KatTups.cons ho hc hd (by rw[<-Array.getElem?_toList,e];rfl) h1,by simp[h2],λv hv=>?_⟩;rcases zL.mp hv with rfl|hv
   ·exact⟨b,rfl⟩
   ·exact h3 v hv
theorem T3{D:Addr}{R:List (Addr×List Bool)}{n0:Nat}{P:PySem.Fin->Shared->Prop}(ho:s.heap.get? D=some (seqObj "list" (R.map λr=>Value.ref r.1).toArray n0))(hR:∀r∈R,Bt prog w s.heap r.2 r.1/\r.2≠[])(KH:R.length<64)
  (h:∀(R':List (Addr×List Bool))(h':Heap)(e:Nat),R'.Perm R->(R'.map (·.2)).Pairwise (λa b=>xy b a=false)->(∀b o,b≠D->s.heap.get? b=some o->h'.get? b=some o)->h'.get? D=some (seqObj "list" (R'.map λr=>Value.ref r.1).toArray e)->P (.done (.ret .none)) { s with heap:=h' }) :
  wpAny (model prog w) A (Builtin.«list.sort» ⟨[.ref D],[]⟩) P E s:=by
 have hl:(R.map λr=>Value.ref r.1).length=R.length:=zV _;have tup:∀{h':Heap},(∀b o,b≠D->s.heap.get? b=some o->h'.get? b=some o)->∀r∈R,Bt prog w h' r.2 r.1/\r.2≠[]:=λ{h'} k r hr=>by
  obtain⟨⟨o,aJ,n,e,hc,hd,hi⟩,iF⟩:=hR r hr;refine⟨⟨o,aJ,n,k _ _ (λz=>?_) e,hc,hd,hi⟩,iF⟩;rw[z]at e;have:=xH Obj.cls (yT (e.symm.trans ho));rw[hc]at this;simp at this
 refine Z8 (O:=Bs) ho (by rw[hl];exact KH) (λi=>(R.getD i (0,[])).2) (tuples' true) (λh2 s1 Q' E' k q=>?_) (λs1 i j C E' k hi hj q=>?_) λp h' e ha hu k eD=>?_
 ·obtain⟨fs,h1,rA,h3⟩:=mr (s:=s1) R (tup k);refine kat_kind (T:=.type "bool") h1 (by rw[rA];rw[hl]at h2;lia) (λv hv=>?_) rfl q;obtain⟨b,rfl⟩:=h3 v hv;exact Looks.of_pure rfl
 ·rw[hl]at hi hj;have e1:(R.map λr=>Value.ref r.1).getD i Value.none = .ref (R.getD i (0,[])).1:=by simp[hi]
  have e2:(R.map λr=>Value.ref r.1).getD j Value.none = .ref (R.getD j (0,[])).1:=by simp[hj]
  have m1:R.getD i (0,[])∈R:=by simp[hi]
  have m2:R.getD j (0,[])∈R:=by simp[hj]
  rw[e1,e2];exact Lq true (tup k _ m1).1 (tup k _ m2).1 q
 ·rw[hl]at ha hu;have hp:(p.toList.map λi=>R.getD i (0,[])).Perm R:=by
   have h1:=ha.pm.map λi=>R.getD i (0,[]);have h2:(List.range R.length).map (λi=>R.getD i (0,[]))=R:=by
    apply uM
    ·simp
    ·intro i a1 a2;simp[a2]
   rw[h2]at h1;exact h1
  refine h (p.toList.map λi=>R.getD i (0,[])) h' e hp ?_ k ?_
  ·rw[xT,xZ];intro i j hi hj pL;have Aa:i<p.size:=by simpa using hi
   have JW:j<p.size:=by simpa using hj
   have:=hu i j (xO pL) (by rw[<-ha.size];exact JW);have g1:p.getD i 0=p[i]:=by simp[Array.getD,Aa]
   have g2:p.getD j 0=p[j]:=by simp[Array.getD,JW]
   unfold Srt.K at this;rw[g1,g2]at this;have h9:xy (R.getD p[j] (0,[])).2 (R.getD p[i] (0,[])).2=false:=this;simpa using h9
  ·rw[eD,xT]
   congr 3
   apply List.map_congr_left;intro i hi;have Aa:i<R.length:=xL.mp (ha.pm.mem_iff.mp hi);simp[Aa]
end
end My
namespace My
open PySem PySem.Spec PySem.W PySem.Calls L2
open PyProof.Rows hiding St
section
open Tb
theorem Vu:∀{vs:List Value}{ss:List Str},StrsAre vs ss->∀(i:Nat)(v:Value),vs[i]?=some v->∃x t,ss[i]?=some x/\v = .str x t
 |_,_,.nil,i,v,h=>by simp at h
 |_,_,.cons x t r,0,v,h=>⟨x,t,rfl,by simpa using h.symm⟩
 |_,_,.cons x t r,i+1,v,h=>by
  obtain⟨y,u,h1,h2⟩:=Vu r i v (by simpa using h);exact⟨y,u,by simpa using h1,h2⟩
section
variable {X:Cx}
theorem Ys{pins:List (Addr×Obj)}{σ:St}{H:Hp}{s:Shared}(I:Inv X pins σ H s)(d:Drawn):Inv X pins σ H { s with drawn:=d }:=⟨I.ok,I.os,I.bare,I.base,I.loc,I.cell,I.free,I.freeC,I.pin,I.hok,I.len⟩
theorem Nl(hc:X.calm=true){pins:List (Addr×Obj)}{σ:St}{H:Hp}{s:Shared}(I:Inv X pins σ H s){p:Addr}{ss:List Str}{Q:VK}(hq:SqL X.K H p (ss.map V.str)\/SqT X.K H p (ss.map V.str))(aZ:ss.length+1<scanBound)(KH:∀dL:List Str,dL.Nodup->(∀x∈dL,x∈ss)->dL.length<64)
  (q:∀dL:List Str,dL.Nodup->(∀x,x∈dL↔x∈ss)->sortedS dL=true->New H (.lst (dL.map V.str)) Q) :
  wpAny (model X.prog X.w) X.A (call (.type "set") [.ref p]) (λu s'=>wpAny (model X.prog X.w) X.A (call (.builtin "sorted") [u]) (EP X pins σ Q) X.xe s') X.xe s:=by
 obtain⟨aJ,rv,pl⟩:∃aJ:List Value,Vals (ss.map V.str) aJ/\(s.heap.IsList p aJ.toArray\/s.heap.IsTuple p aJ.toArray):=by
  rcases hq with hq|hq
  ·obtain⟨aJ,rv,pl,_⟩:=I.list hq;exact⟨aJ,rv,.inl pl.isList⟩
  ·obtain⟨aJ,rv,pl,_⟩:=I.tuple hq;exact⟨aJ,rv,.inr pl⟩
 have gY:=dy rv;have UT:aJ.length=ss.length:=by rw[<-rv.length,zV]
 have hh:X.A.handled=none:=I.ok.hd hc;refine Jn hh pl (λi h=>∃es ep t,h.get? s.heap.objs.size=some (y0 es ep t)/\t.fits es.size=true/\t.led=!byT X.w/\(es.size≠0->t.plain=false)/\GoodS X.w es.toList (ss.take i)/\es.size<=i) ?_ ?_ ?_ ?_
 ·rintro i h h' ⟨es,ep,t,e,r⟩ k;exact⟨es,ep,t,k _ _ (zC (xF _)) e,r⟩
 ·refine⟨#[],0,_,zS _ rfl,rfl,rfl,λz=>absurd rfl z,⟨λe he=>by simp at he,λx hx=>by simp at hx,.nil⟩,zT _⟩
 ·rintro i v A' s' Q' E' hu hv ⟨es,ep,t,e,f,l,pn,g,le⟩ qq;have DA:aJ[i]?=some v:=by simpa using hv
  obtain⟨x,tok,hx,rfl⟩:=Vu gY i v DA;have hi:i<ss.length:=(zR.mp hx).1;refine add_str e f g (by lia) pn λb h' tk eX nV t' e' sb f' l' pn' g' le'=>qq b h' tk sb ⟨eX,nV,t',e',f',l'.trans l,pn',?_,by lia⟩;rw[xU,hx];exact g'
 ·rintro h' tk ⟨es,ep,t,e,f,l,pn,g,le⟩ keep;have DF:aJ.toArray.size=ss.length:=by rw[zN,UT]
  rw[DF,xW]at g;rw[DF]at le;have BK:t.plain=true->t.place.toList.Pairwise (·<·):=λhp=>by
   have h0:es.size=0:=xG λz=>by rw[pn z]at hp;cases hp
   have:=Yi f;have h1:t.place.toList=[]:=vK.mp (by rw[xQ,this,h0]);rw[h1];exact .nil
  have hzl:es.size<=sizeLine:=fits_of_scanBound (by lia);refine k4 (s:={ s with heap:=h',toks:=tk }) hh e f l BK hzl λD h2 d tk2 ws hp sH hD eD=>?_;have EK:∀v,v∈ws->∃x t,v = .str x t:=λv hv=>by
   obtain⟨e1,nM,rfl⟩:=yW.mp (hp.mem_iff.mp hv);obtain⟨x,t,_,rfl⟩:=g.in1 e1 nM;exact⟨x,t,rfl⟩
  have hS:=strsAre_map ws EK;have kG:∀x,x∈ws.map strOf↔x∈ss:=λx=>by
   constructor
   ·intro hx;obtain⟨v,hv,rfl⟩:=yW.mp hx;obtain⟨e1,nM,rfl⟩:=yW.mp (hp.mem_iff.mp hv);obtain⟨y,t,hy,rfl⟩:=g.in1 e1 nM;exact hy
   ·intro hx;obtain⟨t,ht⟩:=g.in2 x hx;exact yW.mpr ⟨.str x t,hp.mem_iff.mpr (yW.mpr ⟨_,ht,rfl⟩),rfl⟩
  have EQ:(ws.map strOf).Nodup:=by
   have h1:(es.toList.map (·.2)).Pairwise λv v'=>∀x t t',v = .str x t->v'≠.str x t':=uT.mpr g.one;have h2:=(hp.pairwise_iff (λ{a b} qG x t t' z1 z2=>qG x t' t z2 z1)).mpr h1;refine uT.mpr (vN (λ{a b} ha hb qG=>?_) h2);obtain⟨x,t,rfl⟩:=EK a ha;obtain⟨y,t',rfl⟩:=EK b hb;intro z;have z':x=y:=z;subst z';exact qG x t t' rfl rfl
  have UP:ws.length<64:=by
   have:=KH _ EQ λx hx=>(kG x).mp hx
   rwa [zV]at this
  refine xX slot_list_sort ⟨_,eD,rfl⟩ entry_list_sort (list_sort_treeK strKind_oneLt eD hS.keysOf (λv₁ v₂ rest e=>keyKind_strs (by rw[<-e];exact hS)) UP λiL a1 a2=>⟨_,rfl,?_⟩) (args_list_sort _);obtain⟨dL,b1,b2,b3⟩:=sorted_out_str hS a1 a2;have HW:s.heap.objs.size<=D:=yQ (xO (zU e)) hD;obtain⟨e2,EW⟩:=sortedHeap_at (out:=(arrOf iL).map (·.2)) eD;have hn:H D=none:=I.hok.fresh HW;refine⟨.ref D,upd H D (.lst (dL.map V.str)),?_,rfl,(q dL (b2.nodup_iff.mpr EQ) (λx=>(b2.mem_iff).trans (kG x)) b3).at D hn⟩;refine(Ys I d).laid (t':=tk2) (λb o eb=>?_) HW ⟨?_,((arrOf iL).map (·.2)).toList,e2,dj b1,by rw[Array.toArray_toList];exact EW⟩
  ·have VC:b<s.heap.objs.size:=zU eb;have eb2:=sH b o (keep b o eb);rw[sortedHeap_old (zC (zA VC HW)) (zU eb2)];exact eb2
  ·rw[zV,b2.length_eq,zV];exact xO (zA UP (by decide))
end
end
section
open Tb
theorem Yt{prog:Program}{w:World}:∀k:List Bool,ItemsAre (fm prog w) k (k.map Value.bool)
 |[]=>.nil
 |b::k=>.cons (by show Sn b (.bool b)=true;simp[Sn]) (Yt k)
section
variable {X:Cx}
theorem Cp{pins:List (Addr×Obj)}{σ:St}{H:Hp}{s:Shared}(I:Inv X pins σ H s){a:Addr}{k:List Bool}(h:SqT X.K H a (k.map V.bl)):Bt X.prog X.w s.heap k a:=by
 obtain⟨aJ,rv,⟨o,e,hc,n,d⟩,_⟩:=I.tuple h;have:=wv rv;subst this;exact⟨o,_,n,e,hc,d,Yt k⟩
theorem dw:∀{as:List Addr}{us:List Value},Vals (as.map V.ref) us->us=as.map Value.ref
 |[],us,r=>by cases r;rfl
 |a::as,us,r=>by
  rw[List.map_cons]at r;cases r with
  |cons r1 r2 =>
   cases r1;rw[dw r2]
   rfl
theorem cw:∀(as:List Addr),Vals (as.map V.ref) (as.map Value.ref)
 |[]=>.nil
 |a::as=>.cons rfl (cw as)
theorem Nk(hc:X.calm=true)(hu:X.A.units+64<cLine){pins:List (Addr×Obj)}{σ:St}{H:Hp}{s:Shared}(I:Inv X pins σ H s){p:Addr}{R:List (Addr×List Bool)}{Q:VK}(hq:SqL X.K H p (R.map λr=>V.ref r.1))(hR:∀r∈R,SqT X.K H r.1 (r.2.map V.bl)/\r.2≠[])(KH:R.length<64)
  (q:∀R':List (Addr×List Bool),(∀r∈R',r∈R)->(R'.map (·.2)).Nodup->(∀k,k∈R'.map (·.2)↔k∈R.map (·.2))->(R'.map (·.2)).Pairwise (λa b=>xy b a=false)->R'.length<=R.length->New H (.lst (R'.map λr=>V.ref r.1)) Q) :
  wpAny (model X.prog X.w) X.A (call (.type "set") [.ref p]) (λu s'=>wpAny (model X.prog X.w) X.A (call (.builtin "sorted") [u]) (EP X pins σ Q) X.xe s') X.xe s:=by
 obtain⟨aJ,rv,pl,hz⟩:=I.list hq;have VN:aJ=R.map λr=>Value.ref r.1:=by
  have h1:(R.map λr=>V.ref r.1)=(R.map (·.1)).map V.ref:=by rw[xT];rfl
  rw[h1]at rv;rw[dw rv,xT]
  rfl
 have hBt:∀r∈R,Bt X.prog X.w s.heap r.2 r.1:=λr hr=>Cp I (hR r hr).1;have hh:X.A.handled=none:=I.ok.hd hc;have old:∀{h:Heap},(∀b o,s.heap.get? b=some o->h.get? b=some o)->∀r∈R,Bt X.prog X.w h r.2 r.1:=λ{h} k r hr=>(hBt r hr).mono λo ho=>k _ o ho;refine ni hh pl.isList (λi h=>∃L es ep t,h.get? s.heap.objs.size=some (y0 es ep t)/\Rep L es t/\oq L t/\t.led=!byT X.w/\Good X.prog X.w h (L.map (·.2)) ((R.take i).map (·.2))/\L.length<=i/\(∀e∈L.map (·.2),∃r∈R,e.2 = .ref r.1)/\∀r∈R,Bt X.prog X.w h r.2 r.1) ?_ ?_ ?_ ?_
 ·rintro i h h' ⟨L,es,ep,t,e,r,r5,l,g,le,me,ob⟩ k;have kt:∀r∈R,Bt X.prog X.w h' r.2 r.1:=λr hr=>(ob r hr).mono λo ho=>k _ o (λz=>by
   obtain⟨o2,_,_,e2,_⟩:=hBt r hr;have:=zU e2;rw[z]at this;exact absurd this (tT.mpr (wK _))) ho
  refine⟨L,es,ep,t,k _ _ (zC (xF _)) e,r,r5,l,?_,le,me,kt⟩;have upE:∀e1 k1,e1∈L.map (·.2)->Elem X.prog X.w h e1 k1->Elem X.prog X.w h' e1 k1:=λe1 k1 nM x=>by
   obtain⟨r1,nL,er1⟩:=me e1 nM;obtain⟨b,eb,hb,hh1⟩:=x;rw[er1]at eb;cases eb;exact⟨r1.1,er1,by
    have e3:=(ob r1 nL).inj hb;subst e3;exact kt r1 nL,hh1⟩
  have dnE:∀e1 k1,e1∈L.map (·.2)->Elem X.prog X.w h' e1 k1->Elem X.prog X.w h e1 k1:=λe1 k1 nM x=>by
   obtain⟨k2,_,x2⟩:=g.in1 e1 nM;have:=(upE e1 k2 nM x2).inj x;subst this;exact x2
  exact⟨λe1 h1=>let⟨k1,a1,a2⟩:=g.in1 e1 h1;⟨k1,a1,upE e1 k1 h1 a2⟩,λk1 h1=>let⟨e1,a1,a2⟩:=g.in2 k1 h1;⟨e1,a1,upE e1 k1 a1 a2⟩,
   vN (λ{a b} ha hb qG k1 x1 x2=>qG k1 (dnE a k1 ha x1) (dnE b k1 hb x2)) g.one⟩
 ·refine⟨[],#[],0,_,zS _ rfl,⟨rfl,rfl,rfl,.nil,λx hx=>by simp at hx,.inl rfl,by simp⟩,(show 0*5<7*3 by decide),rfl,⟨λe he=>by simp at he,λk hk=>by simp at hk,.nil⟩,zT _,λe he=>by simp at he,old λb o e=>zY _ e⟩
 ·rintro i v A' s' Q' E' JS hv ⟨L,es,ep,t,e,r,r5,l,g,le,me,ob⟩ qq;rw[VN]at hv;have DA:(R.map λr=>Value.ref r.1)[i]?=some v:=by simpa using hv
  rw[yI]at DA;cases hri:R[i]? with
  |none=>rw[hri]at DA;cases DA
  |some r1 =>
   rw[hri]at DA;cases DA;have hm:=zB hri;have hi:i<R.length:=(zR.mp hri).1;refine K9 (by lia) r r5 (by lia) e g (ob r1 hm) λb h' tk L' eX nV t' e' sb r' r5' l' pl' g' le' me'=>qq b h' tk sb ⟨L',eX,nV,t',e',r',r5',l'.trans l,?_,by lia,λe1 nM=>?_,λr2 DC=>?_⟩
   ·rw[xU,hri,yM];exact g'
   ·rcases me' e1 nM with z|z
    ·exact me e1 z
    ·exact⟨r1,hm,z⟩
   ·obtain⟨o2,i2,n2,e2,c2,rest⟩:=ob r2 DC;exact⟨o2,i2,n2,Zc e sb _ _ c2 e2,c2,rest⟩
 ·rintro h' tk ⟨L,es,ep,t,e,r,r5,l,g,le,me,ob⟩ keep;have DF:aJ.toArray.size=R.length:=by rw[VN,zN,zV]
  rw[DF]at g le;rw[xW]at g;have JX:es.toList=L.map (·.2):=by rw[r.es]
  have HK:es.size=L.length:=by rw[r.es];simp
  have BK:t.plain=true->t.place.toList.Pairwise (·<·):=λ_=>by rw[r.pl];exact r.up
  refine k4 (s:={ s with heap:=h',toks:=tk }) hh e r.fits l BK (by rw[HK,yZ];lia) λD h2 d tk2 ws hp sH hD eD=>?_;rw[JX]at hp;have hrow:∀v∈ws,∃r1∈R,v = .ref r1.1:=λv hv=>by
   obtain⟨e1,nM,rfl⟩:=yW.mp (hp.mem_iff.mp hv);exact me e1 nM
  have pick:∀ws:List Value,(∀v∈ws,∃r1∈R,v = .ref r1.1)->∃R1:List (Addr×List Bool),(∀r1∈R1,r1∈R)/\ws=R1.map λr1=>Value.ref r1.1:=by
   intro ws
   induction ws with
   |nil=>exact λ_=>⟨[],by simp,rfl⟩
   |cons v ws ih =>
    intro EK;obtain⟨R1,h1,h2⟩:=ih λv hv=>EK v (zO _ hv);obtain⟨r1,nL,e1⟩:=EK v zD;refine⟨r1::R1,λy hy=>?_,by rw[e1,h2];rfl⟩;rcases zL.mp hy with rfl|hy
    ·exact nL
    ·exact h1 y hy
  obtain⟨R1,HV,ews⟩:=pick ws hrow;have pB:∀r1∈R,∀e1∈L.map (·.2),e1.2 = .ref r1.1->Elem X.prog X.w h' e1 r1.2:=λr1 nL e1 nM z=>by
   obtain⟨k1,_,b,eb,hb,hh1⟩:=g.in1 e1 nM;rw[z]at eb;cases eb;have:=(ob r1 nL).inj hb;subst this;exact⟨r1.1,z,hb,hh1⟩
  have kG:∀k,k∈R1.map (·.2)↔k∈R.map (·.2):=λk=>by
   constructor
   ·intro hk;obtain⟨r1,nL,rfl⟩:=yW.mp hk;exact yH (HV r1 nL)
   ·intro hk;obtain⟨e1,nM,hE⟩:=g.in2 k hk;have hv:e1.2∈ws:=hp.mem_iff.mpr (yH nM);rw[ews]at hv;obtain⟨r1,nL,er1⟩:=yW.mp hv;have:=(pB r1 (HV r1 nL) e1 nM er1.symm).inj hE;exact yW.mpr ⟨r1,nL,this⟩
  have EQ:(R1.map (·.2)).Nodup:=by
   have h1:((L.map (·.2)).map (·.2)).Pairwise λv v'=>∀r1∈R,∀r2∈R,v = .ref r1.1->v' = .ref r2.1->r1.2≠r2.2 :=
    uT.mpr (vN (λ{a b} ha hb qG r1 nL r2 DC z1 z2 z3=>qG r1.2 (pB r1 nL a ha z1) (z3▸pB r2 DC b hb z2)) g.one)
   have h2:=(hp.pairwise_iff (λ{a b} qG r1 nL r2 DC z1 z2 z3=>qG r2 DC r1 nL z2 z1 z3.symm)).mpr h1;rw[ews]at h2;exact uT.mpr (vN (λ{a b} ha hb qG z=>qG a (HV a ha) b (HV b hb) rfl rfl z) (uT.mp h2))
  have hR1l:R1.length=L.length:=by
   have:=hp.length_eq;rw[ews]at this;simpa using this
  rw[ews]at eD;refine xX slot_list_sort ⟨_,eD,rfl⟩ entry_list_sort (T3 (prog:=X.prog) (w:=X.w) eD (λr1 nL=>⟨(ob r1 (HV r1 nL)).mono λo ho=>sH _ o ho,(hR r1 (HV r1 nL)).2⟩) (by lia) λR2 h3 e3 pm up k3 eD3=>⟨_,rfl,?_⟩) (args_list_sort _);have HW:s.heap.objs.size<=D:=yQ (xO (zU e)) hD;have hn:H D=none:=I.hok.fresh HW;have q2:=q R2 (λr1 nL=>HV r1 (pm.mem_iff.mp nL)) ((pm.map (·.2)).nodup_iff.mpr EQ) (λk=>((pm.map (·.2)).mem_iff).trans (kG k)) up (by rw[pm.length_eq];lia);refine⟨.ref D,upd H D (.lst (R2.map λr1=>V.ref r1.1)),?_,rfl,q2.at D hn⟩;refine(Ys I d).laid (t':=tk2) (λb o eb=>?_) HW ⟨?_,R2.map (λr1=>Value.ref r1.1),e3,?_,eD3⟩
  ·have VC:b<s.heap.objs.size:=zU eb;exact k3 b o (zC (zA VC HW)) (sH b o (keep b o eb))
  ·rw[zV,pm.length_eq,yZ];lia
  ·have h1:(R2.map λr=>V.ref r.1)=(R2.map (·.1)).map V.ref:=by rw[xT];rfl
   have h2:(R2.map λr=>Value.ref r.1)=(R2.map (·.1)).map Value.ref:=by rw[xT];rfl
   rw[h1,h2];exact cw _
def mSS(K:W.Frag):V->Hp->VK->Prop:=λv H Q=>match v with
 | .ref p=>(∃ss:List Str,(SqL K H p (ss.map V.str)\/SqT K H p (ss.map V.str))/\ss.length+1<scanBound/\(∀dL:List Str,dL.Nodup->(∀x∈dL,x∈ss)->dL.length<64)/\∀dL:List Str,dL.Nodup->(∀x,x∈dL↔x∈ss)->sortedS dL=true->New H (.lst (dL.map V.str)) Q) \/
  ∃R:List (Addr×List Bool),SqL K H p (R.map λr=>V.ref r.1)/\(∀r∈R,SqT K H r.1 (r.2.map V.bl)/\r.2≠[])/\R.length<64 /\
   ∀R':List (Addr×List Bool),(∀r∈R',r∈R)->(R'.map (·.2)).Nodup->(∀k,k∈R'.map (·.2)↔k∈R.map (·.2))->(R'.map (·.2)).Pairwise (λa b=>xy b a=false)->R'.length<=R.length->New H (.lst (R'.map λr=>V.ref r.1)) Q
 |_=>False
theorem Bx{K:W.Frag}{H:Hp}{Q:VK}{p:Addr}:mSS K (.ref p) H Q=((∃ss:List Str,(SqL K H p (ss.map V.str)\/SqT K H p (ss.map V.str))/\ss.length+1<scanBound/\(∀dL:List Str,dL.Nodup->(∀x∈dL,x∈ss)->dL.length<64)/\∀dL:List Str,dL.Nodup->(∀x,x∈dL↔x∈ss)->sortedS dL=true->New H (.lst (dL.map V.str)) Q) \/
  ∃R:List (Addr×List Bool),SqL K H p (R.map λr=>V.ref r.1)/\(∀r∈R,SqT K H r.1 (r.2.map V.bl)/\r.2≠[])/\R.length<64 /\
   ∀R':List (Addr×List Bool),(∀r∈R',r∈R)->(R'.map (·.2)).Nodup->(∀k,k∈R'.map (·.2)↔k∈R.map (·.2))->(R'.map (·.2)).Pairwise (λa b=>xy b a=false)->R'.length<=R.length->New H (.lst (R'.map λr=>V.ref r.1)) Q):=rfl
def tSS(K:W.Frag)(te:TE):TE:=fun σ H Q=>te σ H λv H1=>mSS K v H1 Q
theorem ux{e:Expr}{te:TE}{p1 p2 pos1 CU:Pos}(hc:X.calm=true)(hu:X.A.units+64<cLine)(g1:Gl X "sorted")(m1:X.mg "sorted"=none)(g2:Gl X "set")(m2:X.mg "set"=none)(ha:PE X e te)
  (nM:starEach [.Call (.Name "set" p2) [e] [] CU] X.env=[(false,eval (.Call (.Name "set" p2) [e] [] CU) X.env)]:=by rfl) (EW:starEach [e] X.env=[(false,eval e X.env)]:=by rfl) :
  PE X (.Call (.Name "sorted" p1) [.Call (.Name "set" p2) [e] [] CU] [] pos1) (tSS X.K te):=by
 intro pins s σ H Q I h;refine xA (tu I g1 m1 R5 (PyProof.Rows.callWith_builtin1 ?_ nM rfl));rw[nM];refine(show wpAny _ _ (spliced ((false,eval (.Call (.Name "set" p2) [e] [] CU) X.env)::[])) _ _ s from Calls.spliced_cons ?_);refine xA (tu I g2 m2 Gq (xC ?_ EW rfl));rw[EW];refine(show wpAny _ _ (spliced ((false,eval e X.env)::[])) _ _ s from Calls.spliced_cons (thn (ha pins s σ H _ I h) λu s1 ⟨x,H1,I1,r1,q1⟩=>tN ?_));cases x with
 |ref a =>
  cases r1;rcases(show _\/_ from q1)with⟨ss,b1,b2,b3,b4⟩|⟨R,b1,b2,b3,b4⟩
  ·exact thn (Nl hc I1 b1 b2 b3 b4) λu2 s2 h2=>tN h2
  ·exact thn (Nk hc hu I1 b1 b2 b3 b4) λu2 s2 h2=>tN h2
 |_=>exact(show False from q1).elim
end
end
section
section
variable {X:Cx}
def mDN:TE:=λ_ H Q=>New H (.dK []) Q
theorem Hq{pos:Pos}:PE X (.Dict [] [] pos) mDN:=Qf Qc fun σ H Q q p n=>New.at q p n
def Bo:Ci:=λx y v H k=>match x with
 | .ref a=>(∃kvs ky,H a=some (.dK kvs)/\y=kV ky/\kvs.length<sizeLine/\k (upd H a (.dK (Ts kvs ky v))))\/(∃xs i,∃j:Nat,H a=some (.lst xs)/\y = .int i/\i=(j:Int)/\j<xs.length/\k (upd H a (.lst (xs.set j v))))
 |_=>False
theorem E5{a:Addr}{y v:V}{H:Hp}{k:Hp->Prop}:Bo (.ref a) y v H k=((∃kvs ky,H a=some (.dK kvs)/\y=kV ky/\kvs.length<sizeLine/\k (upd H a (.dK (Ts kvs ky v))))\/(∃xs i,∃j:Nat,H a=some (.lst xs)/\y = .int i/\i=(j:Int)/\j<xs.length/\k (upd H a (.lst (xs.set j v))))):=rfl
end
end
section
theorem wq{α:Type}[DecidableEq α]:∀{l m:List α},l.Nodup->(∀x∈l,x∈m)->l.length<=m.length
 |[],_,_,_=>yJ _
 |a::l,m,hn,hs=>by
  rw[vB]at hn;have ha:=hs a zD;have ih:=wq (l:=l) (m:=m.erase a) hn.2 λx hx=>(List.mem_erase_of_ne (by intro z;subst z;exact hn.1 hx)).mpr (hs x (zO _ hx));rw[List.length_erase_of_mem ha]at ih;have:=List.length_pos_of_mem ha;rw[yL];lia
def leS(a b:Str):Prop:=ltCps b.cps.toList a.cps.toList=false
theorem leS_iff{a b:Str}:leS a b↔strKind.kle a.cps.toList b.cps.toList:=by
 unfold leS;rw[ltCps_eq];exact Iff.rfl
theorem Sz{a b c:Str}(h1:leS a b)(h2:leS b c):leS a c:=leS_iff.mpr (uK (leS_iff.mp h1) (leS_iff.mp h2))
theorem O4{a b:Str}(h1:leS a b)(h2:leS b a):a=b:=by
 have:=KeyOrd.kle_antisymm (leS_iff.mp h1) (leS_iff.mp h2);cases a;cases b
 congr 1
 exact xE.mp this
theorem sw:∀(p:Str)(l:List Str),risingS p l=true->(p::l).Pairwise leS
 |p,[],_=>List.pairwise_singleton _ _
 |p,x::r,h=>by
  have h':(!ltCps x.cps.toList p.cps.toList&&risingS x r)=true:=h;rw[yY]at h';have hpx:leS p x:=by unfold leS;simpa using h'.1
  have ih:=sw x r h'.2;refine vF.mpr ⟨λy hy=>?_,ih⟩;rcases zL.mp hy with rfl|hy
  ·exact hpx
  ·exact Sz hpx ((vF.mp ih).1 y hy)
theorem sx:∀(l:List Str),sortedS l=true->l.Pairwise leS
 |[],_=>.nil
 |x::r,h=>sw x r h
theorem T4{a b:List Str}(h1:sortedS a=true)(h2:sortedS b=true)(n1:a.Nodup)(n2:b.Nodup)(he:∀x,x∈a↔x∈b):a=b :=
 List.Perm.eq_of_pairwise (λ_ _ _ _ x y=>O4 x y) (sx a h1) (sx b h2) ((List.perm_ext_iff_of_nodup n1 n2).mpr he)
theorem M6{a b:List (List Bool)}(h1:a.Pairwise λx y=>xy y x=false)(h2:b.Pairwise λx y=>xy y x=false)(n1:a.Nodup)(n2:b.Nodup)(he:∀x,x∈a↔x∈b):a=b :=
 List.Perm.eq_of_pairwise (λ_ _ _ _ x y=>pv _ _ y x) h1 h2 ((List.perm_ext_iff_of_nodup n1 n2).mpr he)
open Classical in
theorem Ek(kvs:List (Key×V))(k:Key)(v:V):(Ts kvs k v).map (·.1)=if k∈kvs.map (·.1)then kvs.map (·.1)else kvs.map (·.1)++[k]:=by
 unfold Ts;have hk:(kvs.any λkv=>decide (kv.1=k))=true↔k∈kvs.map (·.1):=by
  rw[wX,yW];constructor
  ·rintro⟨x,h1,h2⟩;exact⟨x,h1,zF h2⟩
  ·rintro⟨x,h1,h2⟩;exact⟨x,h1,zI h2⟩
 by_cases h:k∈kvs.map (·.1)
 ·rw[zG h,zG (hk.mpr h),xT];apply List.map_congr_left;intro x _;show(if x.1=k then(x.1,v)else x).1=x.1;split<;>rfl
 ·rw[zM h,zM (λz=>h (hk.mp z)),yM]
  rfl
end
end My
namespace My
open PySem PySem.Spec L2
open PyProof.Rows hiding St
def Say.subs:Say->List Say
 | .letter _=>[]
 | .neg s=>[s]
 | .bin _ s t=>[s,t]
theorem nn(s:Say):s.pieces=1+(s.subs.map Say.pieces).sum:=by
 cases s<;>simp[Say.subs,Say.pieces]<;>lia
theorem bb{s:Say}(h:s.subs≠[]):s.letters=(s.subs.map Say.letters).flatten:=by
 cases s<;>simp[Say.subs,Say.letters]at h ⊢
theorem ye:∀s:Say,s.letters.length<=s.pieces
 | .letter _=>zT _
 | .neg s=>Nat.le_succ_of_le (ye s)
 | .bin _ s t=>by
  have h1:=ye s;have h2:=ye t;simp only[Say.letters,Say.pieces,zE];lia
theorem Zb{K:W.Frag}{H:Hp}{v:V}{s:Say}(h:SayAt K H v s)(hn:s.subs≠[]):∃a wd us,v = .ref a/\SqT K H a (.str wd::us)/\decide (wd=Str.ofString "letter")=false/\us.length=s.subs.length/\us.length<=2/\∀(i:Nat) u,us[i]?=some u->∃t,s.subs[i]?=some t/\SayAt K H u t/\t.pieces<s.pieces:=by
 cases s with
 |letter x=>exact absurd rfl hn
 |neg t =>
  obtain⟨a,u,rfl,ha,ht⟩:=h;refine⟨a,_,[u],rfl,ha,w10,rfl,by simp,λi x hx=>?_⟩
  match i,hx with
  |0,hx =>
   cases hx;exact⟨t,rfl,ht,xF _⟩
  |i+1,hx=>simp at hx
 |bin o t t' =>
  obtain⟨a,u,u',rfl,ha,ht,DB⟩:=h;refine⟨a,_,[u,u'],rfl,ha,by cases o<;>first|exact w20|exact w30|exact w40,rfl,by simp,λi x hx=>?_⟩
  match i,hx with
  |0,hx =>
   cases hx;exact⟨t,rfl,ht,by simp only[Say.pieces];lia⟩
  |1,hx =>
   cases hx;exact⟨t',rfl,DB,by simp only[Say.pieces];lia⟩
  |i+2,hx=>simp at hx
theorem Ul{α:Type}(x:α)(us:List α):atI (x::us) 0=some x:=lr (xs:=x::us) (j:=0) rfl
theorem Yh(x:V)(us:List V):rm (x::us) (some 1) none=us:=by
 unfold rm;have e1:HT.sIx (x::us).length 0 (some 1)=1:=by
  show(if(1:Int)<0 then((1:Int)+((x::us).length:Int)).toNat else min (1:Int).toNat (x::us).length)=1;rw[zM (by decide)];show min 1 (us.length+1)=1;lia
 rw[e1,HT.sIx_none];show(us.take (us.length+1-1))=us;rw[Nat.add_sub_cancel,xW]
theorem Yj:∀(ts:List Say),((ts.map Say.letters).flatten).length<=(ts.map Say.pieces).sum
 |[]=>zT _
 |t::ts=>by
  have h1:=ye t;have h2:=Yj ts;simp only[List.map_cons,List.flatten_cons,zE,List.sum_cons];lia
theorem Zn(f:Say->Nat):∀(ts:List Say)(i:Nat),((ts.take i).map f).sum<=(ts.map f).sum
 |[],i=>by simp
 |t::ts,0=>by simp
 |t::ts,i+1=>by
  have:=Zn f ts i;simp only[List.take_succ_cons,List.map_cons,List.sum_cons];lia
end My
namespace My
open PySem PySem.Spec PySem.W PySem.Calls L2
open PyProof.Rows hiding St
section
section
variable {X:Cx}
def Bm(neg:Bool):R2:=λx y H Q=>y = .non/\Q (.bl (if neg then !decide (x = .non)else decide (x = .non))) H
def Bl:V->List V->Hp->VK->Prop:=λx vs H Q=>match x,vs with
 | .ref l,[.int i,y]=>∃xs,H l=some (.lst xs)/\xs.length<sizeLine/\0<=i/\i<2 ^ 62/\Q .non (upd H l (.lst (xs.take i.toNat++y::xs.drop i.toNat)))
 |_,_=>False
theorem Ev{l:Addr}{i:Int}{y:V}{H:Hp}{Q:VK}:Bl (.ref l) [.int i,y] H Q=∃xs,H l=some (.lst xs)/\xs.length<sizeLine/\0<=i/\i<2 ^ 62/\Q .non (upd H l (.lst (xs.take i.toNat++y::xs.drop i.toNat))):=rfl
def Bi:V->List V->Hp->VK->Prop:=λx vs H Q=>match x,vs with
 | .ref l,[]=>∃xs,H l=some (.lst xs)/\Q .non (upd H l (.lst []))
 |_,_=>False
theorem En{l:Addr}{H:Hp}{Q:VK}:Bi (.ref l) [] H Q=∃xs,H l=some (.lst xs)/\Q .non (upd H l (.lst [])):=rfl
theorem Tv(bs:List Bool):(List.range bs.length).all (λi=>bs.getD i false)=bs.all id:=by
 have e:bs=(List.range bs.length).map λi=>bs.getD i false:=by
  apply uM
  ·simp
  ·intro i h1 h2;simp[h1]
 have:=xH (λl:List Bool=>l.all id) e;simp only[List.all_map]at this;exact this.symm
theorem Tw(bs:List Bool):(List.range bs.length).any (λi=>bs.getD i false)=bs.any id:=by
 have e:bs=(List.range bs.length).map λi=>bs.getD i false:=by
  apply uM
  ·simp
  ·intro i h1 h2;simp[h1]
 have:=xH (λl:List Bool=>l.any id) e;simp only[List.any_map]at this;exact this.symm
def mAA(g:List Bool->Bool)(K:W.Frag):List V->Hp->VK->Prop:=λxs H Q=>match xs with
 |[.ref p]=>∃bs:List Bool,SqL K H p (bs.map V.bl)/\Q (.bl (g bs)) H
 |_=>False
theorem Bu{g:List Bool->Bool}{K:W.Frag}{p:Addr}{H:Hp}{Q:VK}:mAA g K [.ref p] H Q=∃bs:List Bool,SqL K H p (bs.map V.bl)/\Q (.bl (g bs)) H:=rfl
theorem du{prog:Program}{w:World}{A:Around}(bs:List Bool):TruthOf prog w A (λi v=>(bs.map Value.bool).toArray[i]?=some v) λi=>bs.getD i false:=λi v s Q E hv hQ=>by
 have:(bs[i]?).map Value.bool=some v:=by simpa using hv
 cases e:bs[i]? with
 |none=>rw[e]at this;cases this
 |some b =>
  rw[e]at this;cases this;refine wJ ?_;have hQ':Q (bs.getD i false) s:=hQ;rw[yK,e]at hQ';exact hQ'
theorem Dq(hc:X.calm=true):vf X (.builtin "all") (mAA (λbs=>bs.all id) X.K):=by
 intro pins s σ H xs us Q I r h
 match xs,h with
 |[.ref p],h =>
  obtain⟨bs,hq,q⟩:=(show∃bs:List Bool,SqL X.K H p (bs.map V.bl)/\Q (.bl (bs.all id)) H from h)
  obtain⟨u,rfl,rx⟩:=qk r;cases rx;obtain⟨aJ,rv,pl,hz⟩:=I.list hq;have e:=wv rv;subst e;have bA:p<s.heap.objs.size:=by obtain⟨o,e,_⟩:=pl.isList;exact zU e
  refine call_all_walk (vR pl.isList ?_);refine⟨s.heap.objs.size,_,_,_,_,_,_,rfl,Walks.list (A:=X.A.in1) (I.ok.hd hc) _ p (zC bA) (bs.map Value.bool).toArray,⟨⟨_,zS _ rfl,rfl,rfl⟩,pl.isList.push _⟩,du bs,λh' tk hk=>?_⟩;have bY:(bs.map Value.bool).toArray.size=bs.length:=by simp
  rw[bY,Tv];refine⟨.bl (bs.all id),H,?_,rfl,q⟩;exact I.kept λb o e=>hk b o (λz=>absurd (zU e) (by rw[zX.mp z];exact wY _)) (zY _ e)
theorem Dr(hc:X.calm=true):vf X (.builtin "any") (mAA (λbs=>bs.any id) X.K):=by
 intro pins s σ H xs us Q I r h
 match xs,h with
 |[.ref p],h =>
  obtain⟨bs,hq,q⟩:=(show∃bs:List Bool,SqL X.K H p (bs.map V.bl)/\Q (.bl (bs.any id)) H from h)
  obtain⟨u,rfl,rx⟩:=qk r;cases rx;obtain⟨aJ,rv,pl,hz⟩:=I.list hq;have e:=wv rv;subst e;have bA:p<s.heap.objs.size:=by obtain⟨o,e,_⟩:=pl.isList;exact zU e
  refine call_any_walk (vR pl.isList ?_);refine⟨s.heap.objs.size,_,_,_,_,_,_,rfl,Walks.list (A:=X.A.in1) (I.ok.hd hc) _ p (zC bA) (bs.map Value.bool).toArray,⟨⟨_,zS _ rfl,rfl,rfl⟩,pl.isList.push _⟩,du bs,λh' tk hk=>?_⟩;have bY:(bs.map Value.bool).toArray.size=bs.length:=by simp
  rw[bY,Tw];refine⟨.bl (bs.any id),H,?_,rfl,q⟩;exact I.kept λb o e=>hk b o (λz=>absurd (zU e) (by rw[zX.mp z];exact wY _)) (zY _ e)
theorem Gm:bootBuiltins "all"=some (.builtin "all"):=by decide +kernel
theorem Gn:bootBuiltins "any"=some (.builtin "any"):=by decide +kernel
end
end
end My
namespace My
open PySem PySem.Spec L2
open PyProof.Rows hiding St
def SaysAt(K:W.Frag)(H:Hp):List V->List Say->Prop
 |[],[]=>True
 |v::vs,s::ss=>SayAt K H v s/\SaysAt K H vs ss
 |_,_=>False
theorem SaysAt.mono{K:W.Frag}{H H':Hp}(t:Tups H H'):∀{vs:List V}{ss:List Say},SaysAt K H vs ss->SaysAt K H' vs ss
 |[],[],_=>trivial
 |v::vs,s::ss,h=>⟨h.1.mono t,SaysAt.mono t h.2⟩
 |[],_::_,h=>h.elim
 |_::_,[],h=>h.elim
theorem SaysAt.app{K:W.Frag}{H:Hp}:∀{vs:List V}{ss:List Say}{vs':List V}{dL:List Say},SaysAt K H vs ss->SaysAt K H vs' dL->SaysAt K H (vs++vs') (ss++dL)
 |[],[],_,_,_,h=>h
 |v::vs,s::ss,_,_,h,h'=>⟨h.1,SaysAt.app h.2 h'⟩
 |[],_::_,_,_,h,_=>h.elim
 |_::_,[],_,_,h,_=>h.elim
theorem SaysAt.len{K:W.Frag}{H:Hp}:∀{vs:List V}{ss:List Say},SaysAt K H vs ss->vs.length=ss.length
 |[],[],_=>rfl
 |v::vs,s::ss,h=>by rw[yL,yL,SaysAt.len h.2]
 |[],_::_,h=>h.elim
 |_::_,[],h=>h.elim
def rk(ts:List Say):List Str:=(ts.map Say.letters).flatten
theorem N7(a b:List Say):rk (a++b)=rk a++rk b:=by simp[rk]
def ur(k:List Bool):PyData:=.tuple (k.map PyData.bool)
def c7(ks:List (List Bool)):PyData:=.list (ks.map ur)
theorem ft(K:W.Frag)(H:Hp):∀k:List Bool,HasL K H (k.map V.bl) (k.map PyData.bool)
 |[]=>by simp[HasL]
 |x::k=>by
  have ih:=ft K H k;rw[List.map_cons,List.map_cons];unfold HasL;exact⟨_,_,rfl,by unfold Has;rfl,ih⟩
theorem Z4{K:W.Frag}{H:Hp}{a:Addr}{k:List Bool}(h:SqT K H a (k.map V.bl)):Has K H (.ref a) (ur k):=by
 unfold ur Has;exact⟨a,_,rfl,h,ft K H k⟩
theorem nt{K:W.Frag}{H:Hp}:∀{R:List (Addr×List Bool)},(∀r∈R,SqT K H r.1 (r.2.map V.bl))->HasL K H (R.map λr=>V.ref r.1) ((R.map (·.2)).map ur)
 |[],_=>by simp[HasL]
 |r::R,h=>by
  have ih:=nt (R:=R) λq hq=>h q (zO _ hq);rw[List.map_cons,List.map_cons,List.map_cons];unfold HasL;exact⟨_,_,rfl,Z4 (h r zD),ih⟩
theorem Yp{K:W.Frag}{H:Hp}{p:Addr}{R:List (Addr×List Bool)}(h:SqL K H p (R.map λr=>V.ref r.1))(hr:∀r∈R,SqT K H r.1 (r.2.map V.bl)):Has K H (.ref p) (c7 (R.map (·.2))):=by
 unfold c7 Has;exact⟨p,_,rfl,h,nt hr⟩
theorem U1:∀k:List Bool,PyData.canLayAll0 (k.map PyData.bool)=true/\PyData.depthAll (k.map PyData.bool)=0
 |[]=>by simp[PyData.canLayAll0,PyData.depthAll]
 |x::k=>by
  obtain⟨h1,h2⟩:=U1 k;rw[List.map_cons];refine⟨?_,?_⟩
  ·rw[PyData.canLayAll0,h1,Bool.and_true,PyData.canLay0]
  ·rw[PyData.depthAll,h2,PyData.depth]
   rfl
theorem l7(k:List Bool):PyData.canLay0 (ur k)=true/\PyData.depth (ur k)=1:=by
 obtain⟨h1,h2⟩:=U1 k;unfold ur;exact⟨by rw[PyData.canLay0];exact h1,by rw[PyData.depth,h2]⟩
theorem Xx(k:List Bool):SeqAt.shaped (ur k)=true:=by
 obtain⟨h1,h2⟩:=l7 k;unfold SeqAt.shaped;rw[h1,h2]
 rfl
theorem fw:∀ks:List (List Bool),PyData.canLayAll0 (ks.map ur)=true/\PyData.depthAll (ks.map ur)<=1
 |[]=>by simp[PyData.canLayAll0,PyData.depthAll]
 |k::ks=>by
  obtain⟨h1,h2⟩:=fw ks;obtain⟨a1,a2⟩:=l7 k;rw[List.map_cons];refine⟨?_,?_⟩
  ·rw[PyData.canLayAll0,h1,Bool.and_true,a1]
  ·rw[PyData.depthAll,a2];lia
theorem nj(ks:List (List Bool)):SeqAt.shaped (c7 ks)=true:=by
 obtain⟨h1,h2⟩:=fw ks;unfold SeqAt.shaped c7;rw[PyData.canLay0,h1,PyData.depth];generalize PyData.depthAll (ks.map ur)=d at h2
 match d,h2 with
 |0,_=>rfl
 |1,_=>rfl
def NamesOf(ts:List Say)(ss:List Str):Prop:=ss.Nodup/\(∀x,x∈ss↔x∈rk ts)/\sortedS ss=true
theorem NamesOf.eq{ts:List Say}{a b:List Str}(h1:NamesOf ts a)(h2:NamesOf ts b):a=b:=T4 h1.2.2 h2.2.2 h1.1 h2.1 λx=>(h1.2.1 x).trans (h2.2.1 x).symm
def cx(ts:List Say)(hs:List Str):List Bool:=ts.map λt=>t.so hs
theorem cz(ts:List Say)(hs:List Str):(cx ts hs).length=ts.length:=by simp[cx]
def FitRows(ts:List Say)(ss:List Str)(ks:List (List Bool)):Prop:=ks.Nodup/\(∀k,k∈ks↔∃n,n<2 ^ ss.length/\k=cx ts (yb (n:Nat) ss))/\ks.Pairwise (λa b=>xy b a=false)
theorem FitRows.eq{ts:List Say}{ss:List Str}{a b:List (List Bool)}(h1:FitRows ts ss a)(h2:FitRows ts ss b):a=b:=M6 h1.2.2 h2.2.2 h1.1 h2.1 λx=>(h1.2.1 x).trans (h2.2.1 x).symm
theorem mem_allL{x:Str}{ts:List Say}:x∈rk ts↔∃t∈ts,x∈t.letters:=by
 unfold rk;rw[List.mem_flatten];constructor
 ·rintro⟨l,hl,hx⟩;obtain⟨t,ht,rfl⟩:=yW.mp hl;exact⟨t,ht,hx⟩
 ·rintro⟨t,ht,hx⟩;exact⟨t.letters,yH ht,hx⟩
theorem SaysAt.at{K:W.Frag}{H:Hp}:∀{vs:List V}{ts:List Say},SaysAt K H vs ts->∀(i:Nat) v,vs[i]?=some v->∃t,ts[i]?=some t/\SayAt K H v t
 |[],[],_,i,v,h=>by simp at h
 |v::vs,t::ts,h,0,u,e=>by
  cases e;exact⟨t,rfl,h.1⟩
 |v::vs,t::ts,h,i+1,u,e=>by simpa using SaysAt.at h.2 i u (by simpa using e)
 |[],_::_,h,_,_,_=>h.elim
 |_::_,[],h,_,_,_=>h.elim
structure Lst(ts:List Say)(xs:List Str):Prop where
 lo:1<=ts.length
 hi:ts.length<=6
 pc:∀t∈ts,t.pieces<=40
 nm:∀x∈rk ts,x∈xs
 xl:xs.length<=5
 ok:∀x∈xs,Nm x
theorem Lst.names{ts:List Say}{xs ss:List Str}(l:Lst ts xs)(h:NamesOf ts ss):ss.length<=5/\∀x∈ss,Nm x :=
 ⟨yQ (wq h.1 λx hx=>l.nm x ((h.2.1 x).mp hx)) l.xl,λx hx=>l.ok x (l.nm x ((h.2.1 x).mp hx))⟩
end My
namespace My
open PySem PySem.Spec PySem.W PySem.Calls L2
open PyProof.Rows hiding St
section
section
variable {X:Cx}
def Da(K:W.Frag):V->List V->Hp->VK->Prop:=λx vs H Q=>match x,vs with
 | .ref l,[.ref b]=>∃xs zs,H l=some (.lst xs)/\(H b=some (.lst zs)\/SqT K H b zs)/\xs.length+zs.length<=sizeLine/\Q .non (upd H l (.lst (xs++zs)))
 |_,_=>False
theorem Je{K:W.Frag}{l b:Addr}{H:Hp}{Q:VK}:Da K (.ref l) [.ref b] H Q=∃xs zs,H l=some (.lst xs)/\(H b=some (.lst zs)\/SqT K H b zs)/\xs.length+zs.length<=sizeLine/\Q .non (upd H l (.lst (xs++zs))):=rfl
theorem B1{C:Addr->Addr->Prop}{x:V}{vs:List V}(h:match x,vs with|.ref l,[.ref b]=>C l b|_,_=>False):∃l b,x = .ref l/\vs=[.ref b]/\C l b:=by
 cases x with
 |ref l =>
  cases vs with
  |nil=>exact(show False from h).elim
  |cons y t =>
   cases t with
   |nil =>
    cases y with
    |ref b=>exact⟨l,b,rfl,rfl,h⟩
    |_=>exact(show False from h).elim
   |cons _ _=>exact(show False from by cases y<;>exact h).elim
 |_=>exact(show False from by rcases vs with _|⟨y,_|⟨_,_⟩⟩<;>first|exact h|(cases y<;>exact h)).elim
theorem W0:MtR X "list.extend" (Da X.K):=λpins s σ H x xs v us Q I rx rs h=>by
 obtain⟨l,b,rfl,rfl,ys,zs,e,e2,z,q⟩:=B1 (C:=λl b=>∃xs zs,H l=some (.lst xs)/\(H b=some (.lst zs)\/SqT X.K H b zs)/\xs.length+zs.length<=sizeLine/\Q .non (upd H l (.lst (xs++zs)))) h;rcases e2 with e2|e2
 ·exact S8 pins s σ H _ _ v us Q I rx rs ⟨l,b,ys,zs,rfl,rfl,e,e2,z,q⟩
 ·cases rx;obtain⟨u,rfl,ru⟩:=qk rs;cases ru;obtain⟨hz,aJ,n,r,hl,el⟩:=I.lstM e;obtain⟨kF,r2,⟨o2,eb,BV,n2,HP⟩,_⟩:=I.tuple e2;have sK:=r2.length;refine xX vM ⟨_,el,rfl⟩ F.entry_list_extend ?_ (F.args_list_extend_2 _ _);refine(show wpAny _ _ (Builtin.List.listExtendWith (.ref l) (.ref b) .none) _ _ s from ?_);unfold Builtin.List.listExtendWith;refine zZ (uG (T:="tuple") ⟨_,eb,BV⟩ ?_);simp only[show(Value.type "tuple"==Value.type "tuple")=true from by decide,Bool.or_true,if_true];refine zZ (listItems_at eb HP (zZ (listItems_at el rfl ?_)));have bY:aJ.toArray.size+kF.toArray.size<=sizeLine:=by rw[zN,zN];lia
  rw[zM (by rw[Y3 bY,uP];exact zH)];refine zZ (listUpdate_at el rfl ?_ (by rw[zN];lia) (by rw[tJ];lia));refine zZ (zW (zW ⟨_,rfl,?_⟩));refine⟨.non,_,I.lset (its':=aJ++kF) e el (by simp) (r.append r2) ?_,rfl,q⟩;rw[zE];lia
end
end
end My
namespace My
open PySem PySem.Spec PySem.W PySem.Calls L2
open AutoSeq1 (wpAny_loadPart')
open PyProof.Rows hiding St
section
variable {X:Cx}{pins:List (Addr×Obj)}{σ:St}{H:Hp}{s:Shared}{h':Heap}
theorem mj{t':Nat}(L:List Addr)(I:Inv X pins σ H s)(hf:∀b∈L,pk X pins H b)(k:∀b o,b∉L->s.heap.get? b=some o->h'.get? b=some o):Inv X pins σ H { s with heap:=h',toks:=t' }:=by
 have PX:∀b u,H b=some u->b∉L:=λb u e z=>by rw[(hf b z).1]at e;cases e
 refine I.step (g':=s.gens) (d':=s.drawn) (ch:=L) (λb hb=>⟨(hf b hb).2.2.2.1,(hf b hb).2.1,(hf b hb).2.2.2.2.1,(hf b hb).2.2.2.2.2⟩) (λb o _ _ hc e _=>k b o hc e) (λb o _ _ hc e _=>⟨o.slots,k b o hc e⟩) (λ_ _ _ _ n=>n)
  (λb o hc e=>⟨o,k b o hc e⟩) (λ_ _ e=>e) (λ_ _ _ e=>e) (λb ps e=>⟨#[],by rw[e];simp⟩) (λm hm=>?_) (λb u e=>?_) I.bare
 ·obtain⟨o,es,ep,ho,r⟩:=hm;exact⟨o,es,ep,k _ o (λz=>(hf _ z).2.1 rfl) ho,r⟩
 ·refine(I.hok b u e).stay (λc v hc q=>k c v (hc.elim (λz=>by rw[z];exact PX b u e) λz=>PX c _ z) q) (λ_ q=>q) λ_ _ q=>q
end
section
variable {prog:Program}{w:World}{A:Around}{E:Value->Shared->Prop}{s:Shared}
theorem d9{it t:Addr}{i:Nat}{aB:Array Value}{x:Value}{Q:Value->Shared->Prop}(qY:s.heap.IsTupleIter it t i)(ht:s.heap.IsTuple t aB)(hx:aB[i]?=some x)
  (hQ:∀h',h'.IsTupleIter it t (i+1)->Heap.SameBut it s.heap h'->Q x { s with heap:=h' }):wpAny (model prog w) A (Builtin.SmallTypes.nextOf (.ref it)) Q E s:=by
 obtain⟨o,ho,hc,hd⟩:=id qY;obtain⟨ol,CM,_,nl,qF⟩:=ht;unfold Builtin.SmallTypes.nextOf;refine zZ (xM (name:=Str.ofString "__next__") qY.typeIs wA (xX wA qY.typeIs F.entry_tuple_iterator_next ?_ (F.args_tuple_iterator_next_1 _)));show wpAny _ _ (field (.ref it) 0 >>= _) _ _ s;refine zZ (yF ho hd (x:=.ref t) rfl ?_);show wpAny _ _ (if(Value.ref t==Value.none)=true then _ else _) _ _ s;rw[zM (show¬((Value.ref t==Value.none)=true)from zH)];show wpAny _ _ (field (.ref it) 1 >>= _) _ _ s;refine zZ (yF ho hd (x:=.int i 0) rfl ?_);show wpAny _ _ (seqItems? (.ref t) >>= _) _ _ s;refine zZ (wQ CM qF ?_);simp only[wR,hx];refine zZ (tG ho hd (by simp) (zW ⟨x,rfl,zW (hQ _ ⟨_,yC _ ho (vX (wS hd _)),(Obj.cls_mapFields ..).trans hc,by rw[wS hd];simp[rawInt]⟩ (Heap.SameBut.update ..))⟩))
theorem aa{it t:Addr}{i:Nat}{aB:Array Value}{Q:Value->Shared->Prop}(hh:A.handled=none)(qY:s.heap.IsTupleIter it t i)(ht:s.heap.IsTuple t aB)(hx:aB[i]?=none)
  (hE:∀h' e,Heap.ExtBut it s.heap h'->(∃o,h'.get? e=some o/\o.cls = .type "StopIteration")->E (.ref e) { s with heap:=h' }):wpAny (model prog w) A (Builtin.SmallTypes.nextOf (.ref it)) Q E s:=by
 obtain⟨o,ho,hc,hd⟩:=id qY;obtain⟨ol,CM,_,nl,qF⟩:=ht;unfold Builtin.SmallTypes.nextOf;refine zZ (xM (name:=Str.ofString "__next__") qY.typeIs wA (xX wA qY.typeIs F.entry_tuple_iterator_next ?_ (F.args_tuple_iterator_next_1 _)));show wpAny _ _ (field (.ref it) 0 >>= _) _ _ s;refine zZ (yF ho hd (x:=.ref t) rfl ?_);show wpAny _ _ (if(Value.ref t==Value.none)=true then _ else _) _ _ s;rw[zM (show¬((Value.ref t==Value.none)=true)from zH)];show wpAny _ _ (field (.ref it) 1 >>= _) _ _ s;refine zZ (yF ho hd (x:=.int i 0) rfl ?_);show wpAny _ _ (seqItems? (.ref t) >>= _) _ _ s;refine zZ (wQ CM qF ?_);simp only[wR,hx];refine zZ (tB (zZ (tG ho hd (by simp) ?_)));show wpAny _ _ (newExc (.type "StopIteration") [] >>= _) _ _ _;refine zZ ?_;simp only[newExc,newTuple];refine zZ (yE ?_ (by size_fits));refine zZ (m:=firstArgMember _ _) (wpAny_of_eq (a:=Value.none) (by first|rfl|(simp only[firstArgMember];rfl)) ?_);refine yE ?_ (by size_fits);simp only[raiseNew];refine zZ (wpAny_handled ?_);first|rw[show A.in1.handled=none from hh]|rw[hh]
 refine zZ (zW (wpAny_throw (hE _ _ (((Heap.SameBut.update ..).extBut.push _).push _) ⟨_,zS _ rfl,rfl⟩)))
end
theorem Sq{h h':Heap}{t it:Addr}{aB:Array Value}(x:h.IsTuple t aB)(hs:Heap.ExtBut it h h')(iF:t≠it):h'.IsTuple t aB:=let⟨o,ho,r⟩:=x;⟨o,hs t o iF ho,r⟩
theorem uh{prog:Program}{w:World}{A:Around}(hh:A.handled=none)(it t:Addr)(iF:t≠it)(aB:Array Value):Draws prog w A it [it,t] aB.size (λi v=>aB[i]?=some v) (λi h=>h.IsTupleIter it t i/\h.IsTuple t aB)where
 live:=λ_ _ st=>st.1.elim λo ho=>⟨o,ho.1⟩
 frame:=λ_ _ _ st hk=>⟨st.1.at λo e=>hk it (by simp) o e,st.2.elim λo ho=>⟨o,hk t (by simp) o ho.1,ho.2⟩⟩
 item:=λi s Q E hi st hQ=>d9 st.1 st.2 (x:=aB[i]) (by simp[hi]) λh' hit' CL=>hQ _ h' s.toks (by simp[hi]) ⟨hit',Sq st.2 CL.extBut iF⟩ CL
 done:=λs Q E st hE=>aa hh st.1 st.2 (by simp) hE
end My
namespace My
open PySem PySem.Spec PySem.W PySem.Calls L2
open AutoSeq1 (wpAny_loadPart')
open PyProof.Rows hiding St
def lh(t:Addr):Obj:={ cls:=.type "tuple_iterator",data:=.fields #[.ref t,.int 0 0] }
def Wg(it:Addr):Obj:={ cls:=.type "enumerate",data:=.fields #[.none,.bool false,.ref it,rawInt 0,.none,.none] }
theorem Sd(l:Addr)(aB:Array Value):Meets (Builtin.«enumerate.__new__» ⟨[.type "enumerate",.ref l],[]⟩) (λ_ R s=>s.heap.IsTuple l aB /\
  R (.ok (.ret (.ref (s.heap.push (lh l)).objs.size))) { s with heap:=(s.heap.push (lh l)).push (Wg s.heap.objs.size) }) :=
 .of_wp λprog w A R s h=>by
  obtain⟨hp,g,d,tk,os⟩:=s;obtain⟨hL,h⟩:=h;have BL:=sub_enumerate;obtain⟨o,hl,hc,n,hd⟩:=id hL;replace hL:Heap.IsTuple (Shared.heap ⟨hp,g,d,tk,os⟩) l aB:=hL
  wp_walk using vU hl
  refine wpAny_stack_any λst=>zW ?_;split
  ·rename_i c _ _ _ _ _;cases(c==Value.type "enumerate")
   ·wp_walk using vU hl,wN hL;exact⟨_,rfl,h⟩
   ·wp_walk using vU hl,wN hL;exact⟨_,rfl,h⟩
  ·wp_walk using vU hl,wN hL;exact⟨_,rfl,h⟩
section
variable {prog:Program}{w:World}{A:Around}{E:Value->Shared->Prop}{s:Shared}
theorem V8{l:Addr}{aB:Array Value}{Q:Value->Shared->Prop}(hL:s.heap.IsTuple l aB)
  (h:∀h',IsEnum h' (s.heap.objs.size+1) s.heap.objs.size 0 .none->h'.IsTupleIter s.heap.objs.size l 0->(∀b o,s.heap.get? b=some o->h'.get? b=some o)->Q (.ref (s.heap.objs.size+1)) { s with heap:=h' }) :
  wpAny (model prog w) A (call (.type "enumerate") [.ref l]) Q E s:=by
 refine callType_new F.called_enumerate (by decide) (F.typeCall_enumerate_1 _) (F.newCall_enumerate_1 _) (λobj=>F.args_object_init_2 obj _) F.entry_enumerate_new (Sd l aB) ⟨hL,?_⟩;have hz:(s.heap.push (lh l)).objs.size=s.heap.objs.size+1:=xK ..;show _/\_;rw[hz];have he:IsEnum ((s.heap.push (lh l)).push (Wg s.heap.objs.size)) (s.heap.objs.size+1) s.heap.objs.size 0 .none:=by
  have:=zS (s.heap.push (lh l)) (o:=Wg s.heap.objs.size) rfl;rw[hz]at this;exact this
 exact⟨⟨_,he,rfl⟩,h _ he ⟨_,zY _ (zS _ rfl),rfl,rfl⟩ λb o x=>zY _ (zY _ x)⟩
end
theorem fj{h:Heap}{a e it:Addr}{aB:Array Value}{i:Int}{j:Nat}{old:Value}(ha:h.IsTuple a aB)(he:IsEnum h e it i old)(hi:h.IsTupleIter it a j):∀b∈[e,it],a≠b:=λb hb z=>by
 obtain⟨o,e1,c1,_⟩:=ha;subst z;rcases zL.mp hb with z|z
 ·have JZ:h.get? e=some _:=he;rw[<-z,e1]at JZ;have:=yT JZ;rw[this]at c1;simp at c1
 ·have z:=zX.mp z;obtain⟨o2,e2,c2,_⟩:=hi;rw[<-z,e1]at e2;cases e2;rw[c1]at c2;simp at c2
def Ite(K:W.Frag)(a:Addr):It :=
 ⟨λi H=>∃xs x,SqT K H a xs/\xs[i]?=some x,λi H v H'=>∃p x,v = .ref p/\H p=none/\H'=upd H p (.tup [.int (i:Int),x])/\∀xs,SqT K H a xs->xs[i]?=some x,λi H=>∃xs,SqT K H a xs/\xs.length=i⟩
theorem X2{P:Program}{w:World}{K:W.Frag}{rB:List Expr}{k:Nat}{pos:Pos}(a e it:Addr)(hei:e≠it):dz P w K (.Tuple rB k pos) (Ite K a) [e,it] e (λi h=>(∃old,IsEnum h e it ((i:Nat):Int) old)/\h.IsTupleIter it a i)where
 mem:=by simp
 obj:=λi h st b hb=>by
  obtain⟨⟨old,he⟩,hi⟩:=st;rcases zL.mp hb with rfl|hb
  ·exact⟨_,he,λv z=>by cases(show Data.fields _=Data.cell v from z)⟩
  ·rw[zX.mp hb];obtain⟨o,e1,c,d⟩:=hi;exact⟨o,e1,λv z=>by rw[d]at z;cases z⟩
 keep:=λi h h' st kk=>⟨st.1.imp λold he=>kk e (by simp) _ he,st.2.at λo e1=>kk it (by simp) o e1⟩
 item:=by
  intro X hP hw hK hc i pins s σ H E I hf st hg;subst hP hw hK;obtain⟨xs,x,hq,hx⟩:=hg;obtain⟨aJ,rv,p,hz⟩:=I.tuple hq;obtain⟨u,hu,ru⟩:=rv.get hx;obtain⟨⟨old,he⟩,hi⟩:=st;have qY:s.heap.IsTuple a aJ.toArray:=p;have hilt:i<aJ.toArray.size:=by
   have:=(zR.mp hu).1;simpa using this
  have hae:∀b∈[e,it],a≠b:=fj qY he hi;refine wpAny_pyNext_enum_itemD (uh (A:=X.A.in1) (I.ok.hd hc) it a (hae it (by simp)) aJ.toArray) he ⟨hi,qY⟩ hilt hei (λz=>by
   rcases zL.mp z with z|z
   ·exact hei z
   ·exact hae e (by simp) (zX.mp z).symm) λy h1 tk hy ho hs1 hT bY hk=>?_
  have ey:y=u:=by
   have h1:aJ.toArray[i]?=some y:=hy;have h2:aJ.toArray[i]?=some u:=by simpa using hu
   rw[h2]at h1;exact(yT h1).symm
  subst ey;refine⟨_,rfl,wpAny_letOwnedTupleGo_enum (s:={ s with heap:=h1,toks:=tk+1 }) ho λh2 EW oM=>?_⟩;have oQ:e<s.heap.objs.size:=zU he;have fr:H s.heap.objs.size=none:=I.hok.fresh (zT _);have I1:Inv X pins σ (upd H s.heap.objs.size (.tup [.int (i:Int),x])) { s with heap:=s.heap.push { cls:=.type "tuple",data:=.seq #[.int i tk,y] },toks:=tk } :=
   I.laid (λb o e1=>zY _ e1) (zT _) ⟨by simp only[yL,wH];rw[yZ];decide,[.int i tk,y],.cons ⟨_,rfl⟩ (.cons ru .nil),⟨_,zS _ rfl,rfl,_,rfl⟩⟩
  have lt2:∀b∈[e,it],b<s.heap.objs.size:=λb hb=>by
   rcases zL.mp hb with rfl|hb
   ·exact oQ
   ·rw[zX.mp hb];obtain⟨o,e1,_⟩:=hi;exact zU e1
  have UX:∀b∈[e,it],pk X pins (upd H s.heap.objs.size (.tup [.int (i:Int),x])) b:=λb hb=>⟨by rw[zj (zC (lt2 b hb))];exact(hf b hb).1,(hf b hb).2⟩
  have I2:Inv X pins σ (upd H s.heap.objs.size (.tup [.int (i:Int),x])) { s with heap:=h2,toks:=tk+1 }:=mj (s:={ s with heap:=s.heap.push { cls:=.type "tuple",data:=.seq #[.int i tk,y] },toks:=tk }) [e,it] I1 UX λb o hb e1=>by
   have AR:b≠e:=λz=>hb (by simp[z]);have hbi:b≠it:=λz=>hb (by simp[z]);refine(oM.2 b AR).trans ?_;rcases Heap.get?_push_cases e1 with⟨rfl,rfl⟩|e1
   ·exact hT
   ·exact hk b o AR hbi e1
  exact⟨.ref s.heap.objs.size,upd H s.heap.objs.size (.tup [.int (i:Int),x]),I2,rfl,⟨_,x,rfl,fr,rfl,λys GV=>by rw[I.tuple_inj GV hq];exact hx⟩,⟨⟨_,by simpa using EW⟩,hs1.1.at λo e1=>(oM.2 it (wU hei)).trans e1⟩,λb hb=>(UX b hb).1⟩
 done:=by
  intro X hP hw hK hc i pins s σ H E I hf st hg;subst hP hw hK;obtain⟨xs,hq,hx⟩:=hg;obtain⟨aJ,rv,p,hz⟩:=I.tuple hq;obtain⟨⟨old,he⟩,hi⟩:=st;have qY:s.heap.IsTuple a aJ.toArray:=p;have hae:∀b∈[e,it],a≠b:=fj qY he hi;have hl:aJ.toArray.size=i:=by rw[zN,<-rv.length];exact hx
  refine wpAny_pyNext_enum_endD (uh (A:=X.A.in1) (I.ok.hd hc) it a (hae it (by simp)) aJ.toArray) he ⟨by rw[hl];exact hi,qY⟩ λh1 eb=>⟨rfl,mj (t':=s.toks) [e,it] I hf λb o hb e1=>eb b o (λz=>hb (by simp[z])) e1⟩
 self:=λ_ _ _ _ _ st h=>by
  obtain⟨⟨old,he⟩,_⟩:=st;exact wpAny_pyIter_enum he h
end My
namespace My
open PySem PySem.Spec PySem.W PySem.Calls L2
open PyProof.Rows hiding St
section
section
variable {X:Cx}
theorem Le:bootBuiltins "enumerate"=some (.type "enumerate"):=by decide +kernel
def iEn(K:W.Frag)(ta:TA):TI:=fun σ H R=>ta σ H (on1 (Y7 λa H1=>(∃xs,SqT K H1 a xs)/\R (Ite K a) H1))
theorem Hr{rB:List Expr}{kk:Nat}{pt:Pos}{a:Expr}{ta:TA}{p pos:Pos}(hg:Gl X "enumerate")(hm:X.mg "enumerate"=none)(ha:PA X [a] ta)(hs:starEach [a] X.env=[(false,eval a X.env)]:=by rfl):
  PI X (.Tuple rB kk pt) (.Call (.Name "enumerate" p) [a] [] pos) (iEn X.K ta):=by
 intro pins s σ H R I h;refine Call_ (tu I hg hm Le (xC (thn (ha pos pins s σ H _ I h) λus s1 ⟨vs,H1,I1,r1,q1⟩=>?_) hs rfl));rcases vs with _|⟨x,_|⟨y,rr⟩⟩
 ·exact(show False from q1).elim
 ·cases x with
  |ref b =>
   obtain⟨⟨xs,hq⟩,q⟩:=(show(∃xs,SqT X.K H1 b xs)/\R (Ite X.K b) H1 from q1)
   cases r1 with
   |cons r rr =>
    cases rr;cases r;obtain⟨aJ,rv,p1,hz⟩:=I1.tuple hq;refine V8 (show s1.heap.IsTuple b aJ.toArray from p1) λh' he hi hk=>?_;refine wpAny_pyIter_enum (s:={ s1 with heap:=h' }) he ?_;have I2:Inv X pins σ H1 { s1 with heap:=h' }:=I1.kept (t':=s1.toks) hk;refine⟨_,[s1.heap.objs.size+1,s1.heap.objs.size],_,_,H1,rfl,I2,X2 b _ _ (Nat.succ_ne_self _),⟨⟨_,he⟩,hi⟩,λc hc=>?_,q⟩;have AN:s1.heap.objs.size<=c:=by
     rcases zL.mp hc with rfl|hc
     ·exact wK _
     ·rw[zX.mp hc];exact zT _
    exact I1.fpOk AN (I1.hok.fresh AN)
  |_=>exact(show False from q1).elim
 ·exact(show False from q1).elim
end
end
end My
namespace My
open PySem PySem.Spec L2
open PyProof.Rows hiding St
section
variable {X:Cx}
def Bp(K:W.Frag):List V->Hp->VK->Prop:=λxs H Q=>match xs with
 |[.ref p]=>∃ns:List Int,SqL K H p (ns.map V.int)/\Q (.int ns.sum) H
 |_=>False
theorem E8{K:W.Frag}{H:Hp}{Q:VK}{p:Addr}:Bp K [.ref p] H Q=(∃ns:List Int,SqL K H p (ns.map V.int)/\Q (.int ns.sum) H):=rfl
end
structure Ag(K:W.Frag)(x:Str)(st:Stmt)(f:Addr)(fd:FuncData):Prop where
 ex:∃(oc:Value)(od:Option Addr)(dV kV doc pm:Value)(an:Option Addr)(cdv ct:Value)(osl:Array (Option Value)),
  fd=W.fnOf x x (zp st) (zr st) (zy st) dV kV doc pm an cdv ct/\K.lookup f=some ⟨oc,od,.func fd,osl⟩/\W.codeIn K cdv x=true
 kp:W.keepIn K (.ref f)=true
structure Ad(K:W.Frag)(mg:Str->Option Value)(x:Str)(st:Stmt)(ps:List Str)(ds:List Value):Prop where
 ex:∃(f:Addr)(fd:FuncData),Ag K x st f fd/\Binds K fd ps []/\Binds K fd ps ds/\mg x=some (.ref f)
structure B9(P:Program)(w:World)(K:W.Frag)(mg:Str->Option Value)(base:Heap)(k:Nat)(x:Str)(ps:List Str)(ds:List Value)(sp:Sp):Prop where
 ex:∃(f:Addr)(fd:FuncData),vc P w K mg base CX0 k f fd ps sp/\Binds K fd ps []/\Binds K fd ps ds/\W.keepIn K (.ref f)=true/\mg x=some (.ref f)
section
variable {P:Program}{w:World}{K:W.Frag}{mg:Str->Option Value}{base:Heap}
end
section
variable {X:Cx}
def Ea(R:It->Hp->Prop):List V->Hp->Prop:=λvs H=>match vs with
 |[.int i,.int j]=>(-(2 ^ 62)<=i/\i<2 ^ 62/\-(2 ^ 62)<=j/\j<2 ^ 62)/\R (Itr i (j-i).toNat) H
 |_=>False
theorem Mi{R:It->Hp->Prop}{i j:Int}{H:Hp}:Ea R [.int i,.int j] H=((-(2 ^ 62)<=i/\i<2 ^ 62/\-(2 ^ 62)<=j/\j<2 ^ 62)/\R (Itr i (j-i).toNat) H):=rfl
def iR2(ta:TA):TI:=fun σ H R=>ta σ H (Ea R)
end
theorem o9{J:It}{n:Nat}{g:TG}{tb:TS}{D:wa}{σ:St}{H:Hp}(Pv:Nat->St->Hp->Prop)(h0:Pv 0 σ H)
  (hgo:∀i σ H,i<n->Pv i σ H->J.go i H) (gY:∀σ H,Pv n σ H->J.stop n H)
  (hs:∀i v σ H H',i<n->Pv i σ H->J.yld i H v H'->g v σ H' fun σ2 H2=>tb { D with nx:=Pv (i+1),ct:=Pv (i+1),bk:=D.nx } σ2 H2) (hd:∀σ H,Pv n σ H->D.nx σ H):Zu g tb J D σ H:=by
 refine⟨λi m σ H=>m=n-i/\i<=n/\Pv i σ H,⟨n,by simp,yJ _,h0⟩,?_⟩;rintro i m σ H ⟨rfl,hi,p⟩
 by_cases bA:i<n
 ·exact .inr ⟨hgo i σ H bA p,Pv (i+1),fun σ' H' p'=>⟨n-(i+1),by lia,rfl,bA,p'⟩,λx H' y=>hs i x σ H H' bA p y⟩
 ·have e:i=n:=by lia
  subst e;exact .inl ⟨gY σ H p,hd σ H p⟩
theorem Wx{K:W.Frag}{a:Addr}{xs:List V}{j k:Nat}{tb:TS}{D:wa}{σ:St}{H:Hp}(Pv:Nat->St->Hp->Prop)(h0:Pv 0 σ H)(hl:∀i σ H,i<=xs.length->Pv i σ H->SqT K H a xs)
  (hs:∀(i:Nat) x σ H H',xs[i]?=some x->Pv i σ H->Same H H'->tb { D with nx:=Pv (i+1),ct:=Pv (i+1),bk:=D.nx } (sv (sv σ j (.int (i:Int))) k x) H') (hd:∀σ H,Pv xs.length σ H->D.nx σ H) :
  Zu (mG2 K j k) tb (Ite K a) D σ H :=
 o9 (n:=xs.length) Pv h0 (λi σ H hi p=>⟨xs,xs[i],hl i σ H (xO hi) p,by simp[hi]⟩) (fun σ H p=>⟨xs,hl _ σ H (zT _) p,rfl⟩) (λi v σ H H' hi p y=>by
  obtain⟨b,x,rfl,hn,rfl,hx⟩:=y;exact⟨b,_,_,rfl,SqT.of zu,hs i x σ H _ (hx xs (hl i σ H (xO hi) p)) p (we hn _)⟩) hd
end My
namespace My
open PySem PySem.Spec PySem.W PySem.Calls L2
open PyProof.Rows hiding St
section
theorem xp{h:Heap}{a b:Addr}{oa ob:Obj}(ha:h.get? a=some oa)(hb:h.get? b=some ob)(hc:oa.cls≠ob.cls):a≠b:=λz=>by
 subst z;rw[ha]at hb;cases hb;exact hc rfl
def Ae(z tI tO i1 i2 l1 l2:Addr)(i:Nat)(h:Heap):Prop:=IsZip h z tI tO .none/\IsPair h tI (.ref i1) (.ref i2)/\(∃u v,IsPair h tO u v)/\h.IsListIter i1 l1 i/\h.IsListIter i2 l2 i
def Itz(K:W.Frag)(a b:Addr):It :=
 ⟨λi H=>∃xs ys x y,SqL K H a xs/\SqL K H b ys/\xs[i]?=some x/\ys[i]?=some y,λi H v H'=>∃p x y,v = .ref p/\H p=none/\H'=upd H p (.tup [x,y])/\(∀xs,SqL K H a xs->xs[i]?=some x)/\∀ys,SqL K H b ys->ys[i]?=some y,λi H=>∃xs ys,SqL K H a xs/\SqL K H b ys/\xs.length=i/\ys.length=i⟩
section
variable {X:Cx}
theorem Gr:bootBuiltins "zip"=some (.type "zip"):=by decide +kernel
def onZ(K:W.Frag)(R:It->Hp->Prop):List V->Hp->Prop:=λvs H=>match vs with
 |[.ref a,.ref b]=>((∃xs,SqL K H a xs)/\∃ys,SqL K H b ys)/\R (Itz K a b) H
 |_=>False
theorem Ig{K:W.Frag}{R:It->Hp->Prop}{a b:Addr}{H:Hp}:onZ K R [.ref a,.ref b] H=(((∃xs,SqL K H a xs)/\∃ys,SqL K H b ys)/\R (Itz K a b) H):=rfl
def iZp(K:W.Frag)(ta:TA):TI:=fun σ H R=>ta σ H (onZ K R)
end
section
variable {X:Cx}
def Dh(K:W.Frag):List V->Hp->VK->Prop:=λxs H Q=>match xs with
 |[.ref p]=>∃ns:List Int,SqL K H p (ns.map V.int)/\0<ns.length/\∀M,M∈ns->(∀a∈ns,M<=a)->Q (.int M) H
 |_=>False
theorem Ji{K:W.Frag}{H:Hp}{Q:VK}{p:Addr}:Dh K [.ref p] H Q=(∃ns:List Int,SqL K H p (ns.map V.int)/\0<ns.length/\∀M,M∈ns->(∀a∈ns,M<=a)->Q (.int M) H):=rfl
end
end
section
structure ZA(z tI tO i1 i2:Addr)(f1 f2:List Addr):Prop where
 tz:tI≠z
 oz:tO≠z
 az:i1≠z
 bz:i2≠z
 to:tI≠tO
 ta:tI≠i1
 tb:tI≠i2
 oa:tO≠i1
 ob:tO≠i2
 ab:i1≠i2
 g1:∀b∈f1,b≠z/\b≠tO/\b≠i2
 g2:∀b∈f2,b≠z/\b≠tO/\b≠i1
section
variable {prog:Program}{w:World}{A:Around}{E:Value->Shared->Prop}{s:Shared}{z tI tO i1 i2:Addr}{f1 f2:List Addr}{n1 n2 k1 k2:Nat}{P1 P2:Nat->Value->Prop}{S1 S2:Nat->Heap->Prop}{u v:Value}
theorem Rz{Q:Value->Shared->Prop}(D:ZA z tI tO i1 i2 f1 f2)(D1:Draws prog w A i1 f1 n1 P1 S1)(D2:Draws prog w A i2 f2 n2 P2 S2)
  (hz:IsZip s.heap z tI tO .none) (hI:IsPair s.heap tI (.ref i1) (.ref i2)) (hO:IsPair s.heap tO u v) (h1:S1 k1 s.heap) (h2:S2 k2 s.heap) (l1:k1<n1) (l2:k2<n2)
  (hQ:∀x y h' tk,P1 k1 x->P2 k2 y->IsZip h' z tI tO (rawInt s.heap.objs.size)->IsPair h' tO x y->S1 (k1+1) h'->S2 (k2+1) h'->IsPair h' s.heap.objs.size x y ->
   (∀c o,c≠z->c≠tO->c≠i1->c≠i2->s.heap.get? c=some o->h'.get? c=some o)->Q (.ref s.heap.objs.size) { s with heap:=h',toks:=tk }) :
  wpAny (model prog w) A (Builtin.«zip.__next__» ⟨[.ref z],[]⟩) (λcJ s'=>∃v,cJ = .done (.ret v)/\Q v s') E s:=by
 refine(show wpAny _ _ (field (.ref z) 2 >>= _) _ _ _ from zZ (yF hz rfl (x:=.bool false) rfl ?_));refine(show wpAny _ _ (field (.ref z) 3 >>= _) _ _ _ from zZ (yF hz rfl (x:=.ref tI) rfl (zZ (wQ hI rfl ?_))));refine(show wpAny _ _ (Builtin.SmallTypes.ownedTupleIsFree (.ref z) >>= _) _ _ _ from zZ ?_);unfold Builtin.SmallTypes.ownedTupleIsFree;refine zZ (yF hz rfl (x:=.none) rfl (zW ?_));simp only[if_true];refine zZ (tB (zZ (yF hz rfl (x:=.ref tO) rfl (zZ (vY hz (by simp) λg1 mD q1=>?_)))));replace mD:IsZip g1 z tI tO .ellipsis:=mD;have JP:∀c o,c≠z->s.heap.get? c=some o->g1.get? c=some o:=λc o h e=>q1.extBut c o h e;refine zZ ?_;simp only[List.zipIdx_cons,List.zipIdx_nil,List.forIn_cons,List.forIn_nil];refine zZ (zZ (wpAny_onRaise (show wpAny _ _ (Builtin.SmallTypes.nextOf (.ref i1) >>= _) _ _ _ from zZ ?_)));refine D1.item k1 { s with heap:=g1 } _ _ l1 (D1.frame _ _ _ h1 λb hb o e=>JP b o (D.g1 b hb).1 e) λx g2 t2 hx VI q2=>zW ?_;have hO2:IsPair g2 tO u v:=q2.extBut _ _ D.oa (JP _ _ D.oz hO);refine zZ (wQ hO2 rfl (zZ (wpAny_updateSeq_pair hO2 λg3 hO3 q3=>?_)));replace hO3:IsPair g3 tO x v:=hO3;have kp3:∀c o,c≠z->c≠tO->c≠i1->s.heap.get? c=some o->g3.get? c=some o:=λc o c1 c2 c3 e=>q3.extBut _ _ c2 (q2.extBut _ _ c3 (JP c o c1 e));refine zZ (wpAny_letGo (zW (zZ (zZ (wpAny_onRaise (show wpAny _ _ (Builtin.SmallTypes.nextOf (.ref i2) >>= _) _ _ _ from zZ ?_))))));refine D2.item k2 { s with heap:=g3,toks:=t2 } _ _ l2 (D2.frame _ _ _ h2 λb hb o e=>kp3 b o (D.g2 b hb).1 (D.g2 b hb).2.1 (D.g2 b hb).2.2 e) λy g4 t4 hy rA q4=>zW ?_;have hO4:IsPair g4 tO x v:=q4.extBut _ _ D.ob hO3;refine zZ (wQ hO4 rfl (zZ (wpAny_updateSeq_pair hO4 λg5 hO5 q5=>?_)));replace hO5:IsPair g5 tO x y:=hO5;have kp5:∀c o,c≠z->c≠tO->c≠i1->c≠i2->s.heap.get? c=some o->g5.get? c=some o:=λc o c1 c2 c3 c4 e=>q5.extBut _ _ c2 (q4.extBut _ _ c4 (kp3 c o c1 c2 c3 e));have hz5:IsZip g5 z tI tO .ellipsis:=q5.extBut _ _ D.oz.symm (q4.extBut _ _ D.bz.symm (q3.extBut _ _ D.oz.symm (q2.extBut _ _ D.az.symm mD)));have sz5:g5.objs.size=s.heap.objs.size:=by rw[q5.1,q4.1,q3.1,q2.1,q1.1]
 have a5:S1 (k1+1) g5:=D1.frame _ _ _ VI λb hb o e=>q5.extBut _ _ (D.g1 b hb).2.1 (q4.extBut _ _ (D.g1 b hb).2.2 (q3.extBut _ _ (D.g1 b hb).2.1 e));have b5:S2 (k2+1) g5:=D2.frame _ _ _ rA λb hb o e=>q5.extBut _ _ (D.g2 b hb).2.1 e;refine zZ (wpAny_letGo (zW (zW (zZ (wQ hO5 rfl (zZ (wpAny_newTuple ?_)))))));have zl:z<g5.objs.size:=zU hz5;refine(show wpAny _ _ (Builtin.SmallTypes.ownedTupleHandOut (.ref z) (.ref g5.objs.size) >>= _) _ _ _ from zZ ?_);unfold Builtin.SmallTypes.ownedTupleHandOut;have hz6:IsZip (g5.push { cls:=.type "tuple",data:=.seq #[x,y] }) z tI tO .ellipsis:=zY _ hz5;refine zZ (vY hz6 (by simp) λg7 hz7 q7=>?_);replace hz7:IsZip g7 z tI tO (rawInt g5.objs.size):=hz7;refine vY hz7 (by simp) λg8 hz8 q8=>?_;replace hz8:IsZip g8 z tI tO (rawInt g5.objs.size):=hz8;have up:∀c o,c≠z->g5.get? c=some o->g8.get? c=some o:=λc o c1 e=>q8.extBut _ _ c1 (q7.extBut _ _ c1 (zY _ e));have hT8:IsPair g8 g5.objs.size x y:=q8.extBut _ _ (wF zl) (q7.extBut _ _ (wF zl) (zS _ rfl));rw[sz5]at hz8 hT8;refine zW ⟨_,rfl,(show Q (.ref g5.objs.size) _ from ?_)⟩;rw[sz5];exact hQ x y g8 _ hx hy hz8 (up _ _ D.oz hO5) (D1.frame _ _ _ a5 λb hb o e=>up b o (D.g1 b hb).1 e) (D2.frame _ _ _ b5 λb hb o e=>up b o (D.g2 b hb).1 e) hT8 λc o c1 c2 c3 c4 e=>up c o c1 (kp5 c o c1 c2 c3 c4 e)
theorem Nz{Q:Fin->Shared->Prop}(D:ZA z tI tO i1 i2 f1 f2)(D1:Draws prog w A i1 f1 n1 P1 S1)
  (hz:IsZip s.heap z tI tO .none) (hI:IsPair s.heap tI (.ref i1) (.ref i2)) (hO:IsPair s.heap tO u v) (h1:S1 n1 s.heap)
  (hE:∀h' e,(∀c o,c≠z->c≠i1->s.heap.get? c=some o->h'.get? c=some o)->(∃o,h'.get? e=some o/\o.cls = .type "StopIteration")->E (.ref e) { s with heap:=h' }) :
  wpAny (model prog w) A (Builtin.«zip.__next__» ⟨[.ref z],[]⟩) Q E s:=by
 refine(show wpAny _ _ (field (.ref z) 2 >>= _) _ _ _ from zZ (yF hz rfl (x:=.bool false) rfl ?_));refine(show wpAny _ _ (field (.ref z) 3 >>= _) _ _ _ from zZ (yF hz rfl (x:=.ref tI) rfl (zZ (wQ hI rfl ?_))));refine(show wpAny _ _ (Builtin.SmallTypes.ownedTupleIsFree (.ref z) >>= _) _ _ _ from zZ ?_);unfold Builtin.SmallTypes.ownedTupleIsFree;refine zZ (yF hz rfl (x:=.none) rfl (zW ?_));simp only[if_true];refine zZ (tB (zZ (yF hz rfl (x:=.ref tO) rfl (zZ (vY hz (by simp) λg1 mD q1=>?_)))));replace mD:IsZip g1 z tI tO .ellipsis:=mD;have JP:∀c o,c≠z->s.heap.get? c=some o->g1.get? c=some o:=λc o h e=>q1.extBut c o h e;refine zZ ?_;simp only[List.zipIdx_cons,List.zipIdx_nil,List.forIn_cons,List.forIn_nil];refine zZ (zZ (wpAny_onRaise (show wpAny _ _ (Builtin.SmallTypes.nextOf (.ref i1) >>= _) _ _ _ from zZ ?_)));refine D1.done { s with heap:=g1 } _ _ (D1.frame _ _ _ h1 λb hb o e=>JP b o (D.g1 b hb).1 e) λg2 e q2 he=>?_;obtain⟨oe,ho,hc⟩:=he;have CY:IsZip g2 z tI tO .ellipsis:=q2 _ _ D.az.symm mD;have hez:e≠z:=λq=>by
  subst q;have hz2':g2.get? e=some _:=CY;rw[hz2']at ho;cases ho;simp at hc
 refine vY (s:={ s with heap:=g2 }) CY (by simp) λg3 _ q3=>hE g3 e (λc o c1 c2 x=>q3.extBut _ _ c1 (q2 _ _ c2 (JP c o c1 x))) ⟨oe,q3.extBut _ _ hez ho,hc⟩
theorem X9{Q:Option Value->Shared->Prop}(D:ZA z tI tO i1 i2 f1 f2)(D1:Draws prog w A.in1 i1 f1 n1 P1 S1)(D2:Draws prog w A.in1 i2 f2 n2 P2 S2)
  (hz:IsZip s.heap z tI tO .none) (hI:IsPair s.heap tI (.ref i1) (.ref i2)) (hO:IsPair s.heap tO u v) (h1:S1 k1 s.heap) (h2:S2 k2 s.heap) (l1:k1<n1) (l2:k2<n2)
  (hQ:∀x y h' tk,P1 k1 x->P2 k2 y->IsZip h' z tI tO (rawInt s.heap.objs.size)->IsPair h' tO x y->S1 (k1+1) h'->S2 (k2+1) h'->IsPair h' s.heap.objs.size x y ->
   (∀c o,c≠z->c≠tO->c≠i1->c≠i2->s.heap.get? c=some o->h'.get? c=some o)->Q (some (.ref s.heap.objs.size)) { s with heap:=h',toks:=tk }):wpAny (model prog w) A (pyNext (.ref z)) Q E s:=by
 have hT:s.TypeIs (.ref z) "zip":=⟨_,hz,rfl⟩
 unfold pyNext;exact zZ (wpAny_attempt (xM (name:=Str.ofString "__next__") hT uV (xX uV hT F.entry_zip_next (Rz D D1 D2 hz hI hO h1 h2 l1 l2 λx y h' tk p1 p2 c1 c2 c3 c4 c5 c6=>zW (hQ x y h' tk p1 p2 c1 c2 c3 c4 c5 c6)) (F.args_zip_next_1 _))))
theorem Ui{Q:Option Value->Shared->Prop}(D:ZA z tI tO i1 i2 f1 f2)(D1:Draws prog w A.in1 i1 f1 n1 P1 S1)
  (hz:IsZip s.heap z tI tO .none) (hI:IsPair s.heap tI (.ref i1) (.ref i2)) (hO:IsPair s.heap tO u v) (h1:S1 n1 s.heap)
  (hQ:∀h',(∀c o,c≠z->c≠i1->s.heap.get? c=some o->h'.get? c=some o)->Q none { s with heap:=h' }):wpAny (model prog w) A (pyNext (.ref z)) Q E s:=by
 have hT:s.TypeIs (.ref z) "zip":=⟨_,hz,rfl⟩
 unfold pyNext;refine zZ (wpAny_attempt (xM (name:=Str.ofString "__next__") hT uV (xX uV hT F.entry_zip_next (Nz D D1 hz hI hO h1 λh' e hk he=>?_) (F.args_zip_next_1 _))));obtain⟨o,ho,hc⟩:=he;exact zZ (wpAny_isInstance (T:="StopIteration") (b:=true) ⟨o,ho,hc⟩ isSubtype_stop (zW (hQ _ hk)))
end
def zt1(h:Heap)(a:Addr):Heap:=h.push (lh a)
def zt2(h:Heap)(a b:Addr):Heap:=(zt1 h a).push (lh b)
def zt3(h:Heap)(a b:Addr):Heap:=(zt2 h a b).push { cls:=.type "tuple",data:=.seq #[.ref h.objs.size,.ref (zt1 h a).objs.size] }
def zt4(h:Heap)(a b:Addr):Heap:=(zt3 h a b).push { cls:=.type "tuple",data:=.seq #[.none,.none] }
def zt5(h:Heap)(a b:Addr):Heap:=(zt4 h a b).push { cls:=.type "zip",data:=.fields #[.none,.bool false,.bool false,.ref (zt2 h a b).objs.size,.ref (zt3 h a b).objs.size] }
theorem R0(a b:Addr)(xs ys:Array Value):Meets (Builtin.«zip.__new__» ⟨[.type "zip",.ref a,.ref b],[]⟩) (λ_ R s=>s.heap.IsTuple a xs/\s.heap.IsTuple b ys /\
  R (.ok (.ret (.ref (zt4 s.heap a b).objs.size))) { s with heap:=zt5 s.heap a b }) :=
 .of_wp λprog w A R s h=>by
  obtain⟨hp,g,d,tk,os⟩:=s;obtain⟨ha,hb,h⟩:=h;have BL:=sub_zip;have hA:Heap.IsTuple (Shared.heap ⟨hp,g,d,tk,os⟩) a xs:=ha;have hB:Heap.IsTuple (Shared.heap ⟨hp.push { cls:=.type "tuple_iterator",data:=.fields #[.ref a,.int 0 0] },g,d,tk,os⟩) b ys:=hb.elim λo ho=>⟨o,zY _ ho.1,ho.2⟩
  wp_walk using wN hA,wN hB
  exact⟨_,rfl,h⟩
section
variable {prog:Program}{w:World}{A:Around}{E:Value->Shared->Prop}{s:Shared}
theorem Sa{a b:Addr}{xs ys:Array Value}{Q:Value->Shared->Prop}(ha:s.heap.IsTuple a xs)(hb:s.heap.IsTuple b ys)
  (h:∀h',IsZip h' (s.heap.objs.size+4) (s.heap.objs.size+2) (s.heap.objs.size+3) .none->IsPair h' (s.heap.objs.size+2) (.ref s.heap.objs.size) (.ref (s.heap.objs.size+1))->IsPair h' (s.heap.objs.size+3) .none .none ->
   h'.IsTupleIter s.heap.objs.size a 0->h'.IsTupleIter (s.heap.objs.size+1) b 0->(∀c o,s.heap.get? c=some o->h'.get? c=some o)->Q (.ref (s.heap.objs.size+4)) { s with heap:=h' }):wpAny (model prog w) A (call (.type "zip") [.ref a,.ref b]) Q E s:=by
 refine callType_new F.called_zip (by decide) (F.typeCall_zip_2 _ _) (F.newCall_zip_2 _ _) (λobj=>F.args_object_init_3 obj _ _) F.entry_zip_new (R0 a b xs ys) ⟨ha,hb,?_⟩;have y1:(zt1 s.heap a).objs.size=s.heap.objs.size+1:=xK ..;have y2:(zt2 s.heap a b).objs.size=s.heap.objs.size+2:=by unfold zt2;rw[xK,y1]
 have y3:(zt3 s.heap a b).objs.size=s.heap.objs.size+3:=by unfold zt3;rw[xK,y2]
 have y4:(zt4 s.heap a b).objs.size=s.heap.objs.size+4:=by unfold zt4;rw[xK,y3]
 have p5:(zt5 s.heap a b).get? (zt4 s.heap a b).objs.size=some _:=zS _ rfl;have p4:(zt5 s.heap a b).get? (zt3 s.heap a b).objs.size=some _:=zY _ (zS _ rfl);have k3:∀c o,(zt3 s.heap a b).get? c=some o->(zt5 s.heap a b).get? c=some o:=λc o e=>zY _ (zY _ e);have p3:(zt5 s.heap a b).get? (zt2 s.heap a b).objs.size=some _:=k3 _ _ (zS _ rfl);have p2:(zt5 s.heap a b).get? (zt1 s.heap a).objs.size=some _:=k3 _ _ (zY _ (zS _ rfl));have p1:(zt5 s.heap a b).get? s.heap.objs.size=some _:=k3 _ _ (zY _ (zY _ (zS _ rfl)));show _/\_;rw[y2,y3,y4]at p5;rw[y1,y2]at p3;rw[y3]at p4;rw[y1]at p2;rw[y4];exact⟨⟨_,p5,rfl⟩,h _ p5 p3 p4 ⟨_,p1,rfl,rfl⟩ ⟨_,p2,rfl,rfl⟩ λc o x=>k3 _ _ (zY _ (zY _ (zY _ x)))⟩
end
def ZtSt(z tI tO i1 i2 l1 l2:Addr)(i:Nat)(h:Heap):Prop:=IsZip h z tI tO .none/\IsPair h tI (.ref i1) (.ref i2)/\(∃u v,IsPair h tO u v)/\h.IsTupleIter i1 l1 i/\h.IsTupleIter i2 l2 i
theorem ZtSt.lt{z tI tO i1 i2 l1 l2:Addr}{i:Nat}{h:Heap}(st:ZtSt z tI tO i1 i2 l1 l2 i h):∀b∈[z,tI,tO,i1,i2],b<h.objs.size:=λb hb=>by
 obtain⟨hz,hI,⟨u,v,hO⟩,⟨oa,ea,_⟩,⟨ob,eb,_⟩⟩:=st;simp only[zL,uL,or_false]at hb;rcases hb with rfl|rfl|rfl|rfl|rfl
 ·exact zU hz
 ·exact zU hI
 ·exact zU hO
 ·exact zU ea
 ·exact zU eb
theorem Zt{h:Heap}{z tI tO i1 i2 l1 l2:Addr}{i:Nat}{xs ys:Array Value}(t:tI≠tO)(ii:i1≠i2)(l1o:l1≠tO)(l2o:l2≠tO)(st:ZtSt z tI tO i1 i2 l1 l2 i h)(h1:h.IsTuple l1 xs)(h2:h.IsTuple l2 ys):ZA z tI tO i1 i2 [i1,l1] [i2,l2]:=by
 obtain⟨hz,hI,⟨u,v,hO⟩,⟨oa,ea,ca,_⟩,⟨ob,eb,cb,_⟩⟩:=st;obtain⟨o1,e1,c1,_⟩:=h1;obtain⟨o2,e2,c2,_⟩:=h2;have BI:h.get? z=some _:=hz;have hI':h.get? tI=some _:=hI;have VF:h.get? tO=some _:=hO;refine⟨xp hI' BI (by simp),xp VF BI (by simp),xp ea BI (by rw[ca];simp),xp eb BI (by rw[cb];simp),t,xp hI' ea (by rw[ca];simp),xp hI' eb (by rw[cb];simp),xp VF ea (by rw[ca];simp),xp VF eb (by rw[cb];simp),ii,λb hb=>?_,λb hb=>?_⟩
 ·rcases zL.mp hb with rfl|hb
  ·exact⟨xp ea BI (by rw[ca];simp),(xp VF ea (by rw[ca];simp)).symm,ii⟩
  ·rw[zX.mp hb];exact⟨xp e1 BI (by rw[c1];simp),l1o,xp e1 eb (by rw[c1,cb];simp)⟩
 ·rcases zL.mp hb with rfl|hb
  ·exact⟨xp eb BI (by rw[cb];simp),(xp VF eb (by rw[cb];simp)).symm,ii.symm⟩
  ·rw[zX.mp hb];exact⟨xp e2 BI (by rw[c2];simp),l2o,xp e2 ea (by rw[c2,ca];simp)⟩
def N1(K:W.Frag)(a b:Addr):It :=
 ⟨λi H=>∃xs ys x y,SqT K H a xs/\SqT K H b ys/\xs[i]?=some x/\ys[i]?=some y,λi H v H'=>∃p x y,v = .ref p/\H p=none/\H'=upd H p (.tup [x,y])/\(∀xs,SqT K H a xs->xs[i]?=some x)/\∀ys,SqT K H b ys->ys[i]?=some y,λi H=>∃xs ys,SqT K H a xs/\SqT K H b ys/\xs.length=i/\ys.length=i⟩
theorem Ud{P:Program}{w:World}{K:W.Frag}{rB:List Expr}{k:Nat}{pos:Pos}(l1 l2 z tI tO i1 i2:Addr)(t:tI≠tO)(ii:i1≠i2)(l1o:l1≠tO)(l2o:l2≠tO):
  dz P w K (.Tuple rB k pos) (N1 K l1 l2) [z,tI,tO,i1,i2] z (ZtSt z tI tO i1 i2 l1 l2)where
 mem:=by simp
 obj:=λi h st b hb=>by
  obtain⟨hz,hI,⟨u,v,hO⟩,⟨oa,ea,ca,da⟩,⟨ob,eb,cb,db⟩⟩:=st;simp only[zL,uL,or_false]at hb;rcases hb with rfl|rfl|rfl|rfl|rfl
  ·exact⟨_,hz,λv z=>by cases(show Data.fields _=Data.cell v from z)⟩
  ·exact⟨_,hI,λv z=>by cases(show Data.seq _ _=Data.cell v from z)⟩
  ·exact⟨_,hO,λv z=>by cases(show Data.seq _ _=Data.cell v from z)⟩
  ·exact⟨oa,ea,λv z=>by rw[da]at z;cases z⟩
  ·exact⟨ob,eb,λv z=>by rw[db]at z;cases z⟩
 keep:=λi h h' st kk=>by
  obtain⟨hz,hI,⟨u,v,hO⟩,ha,hb⟩:=st;exact⟨kk z (by simp) _ hz,kk tI (by simp) _ hI,⟨u,v,kk tO (by simp) _ hO⟩,ha.at λo e=>kk i1 (by simp) o e,hb.at λo e=>kk i2 (by simp) o e⟩
 item:=by
  intro X hP hw hK hc i pins s σ H E I hf st hg;subst hP hw hK;obtain⟨xs,ys,x,y,JV,JU,hx,hy⟩:=hg;obtain⟨aJ,rv,p,mD⟩:=I.tuple JV;obtain⟨GS,CK,p',CY⟩:=I.tuple JU;obtain⟨u,hu,ru⟩:=rv.get hx;obtain⟨v,hv,rv'⟩:=CK.get hy;have AM:s.heap.IsTuple l1 aJ.toArray:=p;have HD:s.heap.IsTuple l2 GS.toArray:=p';have ap:=Zt t ii l1o l2o st AM HD;have iL:=st;obtain⟨hz,hI,⟨u0,v0,hO⟩,ha,hb⟩:=st;have sL:i<aJ.toArray.size:=by simpa using(zR.mp hu).1
  have sK:i<GS.toArray.size:=by simpa using(zR.mp hv).1
  refine X9 ap (uh (A:=X.A.in1) (I.ok.hd hc) i1 l1 (λq=>(ap.g1 l1 (by simp)).2.2 (by
   obtain⟨o1,e1,c1,_⟩:=AM;obtain⟨o2,e2,c2,_⟩:=ha;rw[q,e2]at e1;cases e1;rw[c2]at c1;simp at c1)) aJ.toArray) (uh (A:=X.A.in1) (I.ok.hd hc) i2 l2 (λq=>(ap.g2 l2 (by simp)).2.2 (by
   obtain⟨o1,e1,c1,_⟩:=HD;obtain⟨o2,e2,c2,_⟩:=hb;rw[q,e2]at e1;cases e1;rw[c2]at c1;simp at c1)) GS.toArray) hz hI hO ⟨ha,AM⟩ ⟨hb,HD⟩ sL sK λx' y' h1 tk EJ GW a1 a2 a3 a4 a5 hk=>?_
  have ex:x'=u:=by
   have h2:aJ.toArray[i]?=some u:=by simpa using hu
   exact yT (EJ.symm.trans h2)
  have ey:y'=v:=by
   have h2:GS.toArray[i]?=some v:=by simpa using hv
   exact yT (GW.symm.trans h2)
  subst ex ey;refine⟨_,rfl,wpAny_letOwnedTupleGo_zip (s:={ s with heap:=h1,toks:=tk }) a1 λh2 b1 oM=>?_⟩;have fr:H s.heap.objs.size=none:=I.hok.fresh (zT _);have I1:Inv X pins σ (upd H s.heap.objs.size (.tup [x,y])) { s with heap:=s.heap.push { cls:=.type "tuple",data:=.seq #[x',y'] },toks:=tk } :=
   I.laid (λb o e1=>zY _ e1) (zT _) ⟨by simp only[yL,wH];rw[yZ];decide,[x',y'],.cons ru (.cons rv' .nil),⟨_,zS _ rfl,rfl,_,rfl⟩⟩
  have lt5:=ZtSt.lt iL;have UX:∀b∈[z,tI,tO,i1,i2],pk X pins (upd H s.heap.objs.size (.tup [x,y])) b:=λb fB=>⟨by rw[zj (zC (lt5 b fB))];exact(hf b fB).1,(hf b fB).2⟩
  have I2:Inv X pins σ (upd H s.heap.objs.size (.tup [x,y])) { s with heap:=h2,toks:=tk }:=mj (s:={ s with heap:=s.heap.push { cls:=.type "tuple",data:=.seq #[x',y'] },toks:=tk }) [z,tI,tO,i1,i2] I1 UX λb o fB e1=>by
   have n1:b≠z:=λq=>fB (by simp[q]);have n2:b≠tO:=λq=>fB (by simp[q]);have n3:b≠i1:=λq=>fB (by simp[q]);have n4:b≠i2:=λq=>fB (by simp[q]);refine(oM.2 b n1).trans ?_;rcases Heap.get?_push_cases e1 with⟨rfl,rfl⟩|e1
   ·exact a5
   ·exact hk b o n1 n2 n3 n4 e1
  refine⟨.ref s.heap.objs.size,upd H s.heap.objs.size (.tup [x,y]),I2,rfl,⟨_,x,y,rfl,fr,rfl,λKJ GV=>by rw[I.tuple_inj GV JV];exact hx,λKJ GV=>by rw[I.tuple_inj GV JU];exact hy⟩,⟨b1,?_,⟨x',y',?_⟩,a3.1.at λo e1=>(oM.2 i1 ap.az).trans e1,a4.1.at λo e1=>(oM.2 i2 ap.bz).trans e1⟩,λb fB=>(UX b fB).1⟩
  ·exact(oM.2 tI ap.tz).trans (hk tI _ ap.tz ap.to ap.ta ap.tb hI)
  ·exact(oM.2 tO ap.oz).trans a2
 done:=by
  intro X hP hw hK hc i pins s σ H E I hf st hg;subst hP hw hK;obtain⟨xs,ys,JV,JU,hx,hy⟩:=hg;obtain⟨aJ,rv,p,mD⟩:=I.tuple JV;obtain⟨GS,CK,p',CY⟩:=I.tuple JU;have AM:s.heap.IsTuple l1 aJ.toArray:=p;have ap:=Zt t ii l1o l2o st AM p';obtain⟨hz,hI,⟨u0,v0,hO⟩,ha,hb⟩:=st;have hs:aJ.toArray.size=i:=by rw[zN,<-rv.length];exact hx
  refine Ui ap (uh (A:=X.A.in1) (I.ok.hd hc) i1 l1 (λq=>(ap.g1 l1 (by simp)).2.2 (by
   obtain⟨o1,e1,c1,_⟩:=AM;obtain⟨o2,e2,c2,_⟩:=ha;rw[q,e2]at e1;cases e1;rw[c2]at c1;simp at c1)) aJ.toArray) hz hI hO ⟨by rw[hs];exact ha,AM⟩ λh1 hk=>⟨rfl,mj (t':=s.toks) [z,tI,tO,i1,i2] I hf λb o fB e1=>hk b o (λq=>fB (by simp[q])) (λq=>fB (by simp[q])) e1⟩
 self:=λ_ _ _ _ _ st h=>wpAny_pyIter_zip st.1 h
theorem S4{K:W.Frag}{a b:Addr}{xs ys:List V}{j k:Nat}{tb:TS}{D:wa}{σ:St}{H:Hp}(Pv:Nat->St->Hp->Prop)(UE:xs.length=ys.length)(h0:Pv 0 σ H)(hl:∀i σ H,i<=xs.length->Pv i σ H->SqT K H a xs/\SqT K H b ys)
  (hs:∀(i:Nat) x y σ H H',xs[i]?=some x->ys[i]?=some y->Pv i σ H->Same H H'->tb { D with nx:=Pv (i+1),ct:=Pv (i+1),bk:=D.nx } (sv (sv σ j x) k y) H') (hd:∀σ H,Pv xs.length σ H->D.nx σ H) :
  Zu (mG2 K j k) tb (N1 K a b) D σ H :=
 o9 (n:=xs.length) Pv h0 (λi σ H hi p=>⟨xs,ys,xs[i],ys[i]'(UE▸hi),(hl i σ H (xO hi) p).1,(hl i σ H (xO hi) p).2,by simp[hi],by simp[UE▸hi]⟩)
  (fun σ H p=>⟨xs,ys,(hl _ σ H (zT _) p).1,(hl _ σ H (zT _) p).2,rfl,UE.symm⟩) (λi v σ H H' hi p y=>by
  obtain⟨c,x,y',rfl,hn,rfl,hx,hy⟩:=y;have hh:=hl i σ H (xO hi) p;exact⟨c,_,_,rfl,SqT.of zu,hs i x y' σ H _ (hx xs hh.1) (hy ys hh.2) p (we hn _)⟩) hd
end
section
section
variable {X:Cx}
def Ec(K:W.Frag)(R:It->Hp->Prop):List V->Hp->Prop:=λvs H=>match vs with
 |[.ref a,.ref b]=>((∃xs,SqT K H a xs)/\∃ys,SqT K H b ys)/\R (N1 K a b) H
 |_=>False
theorem Ml{K:W.Frag}{R:It->Hp->Prop}{a b:Addr}{H:Hp}:Ec K R [.ref a,.ref b] H=(((∃xs,SqT K H a xs)/\∃ys,SqT K H b ys)/\R (N1 K a b) H):=rfl
def iZt(K:W.Frag)(ta:TA):TI:=fun σ H R=>ta σ H (Ec K R)
theorem Hv{rB:List Expr}{kk:Nat}{pt:Pos}{a b:Expr}{ta:TA}{p pos:Pos}(hg:Gl X "zip")(hm:X.mg "zip"=none)(ha:PA X [a,b] ta)(hs:starEach [a,b] X.env=[(false,eval a X.env),(false,eval b X.env)]:=by rfl)
  (oM:starEach [b] X.env=[(false,eval b X.env)]:=by rfl):PI X (.Tuple rB kk pt) (.Call (.Name "zip" p) [a,b] [] pos) (iZt X.K ta):=by
 intro pins s σ H R I h;refine Call_ (tu I hg hm Gr (xC (thn (ha pos pins s σ H _ I h) λus s1 ⟨vs,H1,I1,r1,q1⟩=>?_) (by rw[hs,oM]) (by rw[oM];rfl)))
 match vs,q1 with
 |[.ref a,.ref b],q1 =>
  obtain⟨⟨⟨xs,JV⟩,⟨ys,JU⟩⟩,q⟩:=(show((∃xs,SqT X.K H1 a xs)/\∃ys,SqT X.K H1 b ys)/\R (N1 X.K a b) H1 from q1)
  obtain⟨u,w',rfl,ru,CK⟩:=lj r1;cases ru;cases CK;obtain⟨aJ,rv,p1,mD⟩:=I1.tuple JV;obtain⟨GS,rv2,p2,CY⟩:=I1.tuple JU;have la:a<s1.heap.objs.size:=by obtain⟨o,e,_⟩:=p1;exact zU e
  have lb:b<s1.heap.objs.size:=by obtain⟨o,e,_⟩:=p2;exact zU e
  refine Sa (show s1.heap.IsTuple a aJ.toArray from p1) (show s1.heap.IsTuple b GS.toArray from p2) λh' hz hI hO ha hb hk=>?_;refine wpAny_pyIter_zip (s:={ s1 with heap:=h' }) hz ?_;have I2:Inv X pins σ H1 { s1 with heap:=h' }:=I1.kept (t':=s1.toks) hk;refine⟨_,[s1.heap.objs.size+4,s1.heap.objs.size+2,s1.heap.objs.size+3,s1.heap.objs.size,s1.heap.objs.size+1],_,_,H1,rfl,I2,Ud a b _ _ _ _ _ (λq=>absurd (Nat.add_left_cancel q) (by decide)) (λq=>absurd q (zC (xF _))) (zC (zA la (uI _ _))) (zC (zA lb (uI _ _))),⟨hz,hI,⟨_,_,hO⟩,ha,hb⟩,λc hc=>?_,q⟩;have AN:s1.heap.objs.size<=c:=by
   simp only[zL,uL,or_false]at hc;rcases hc with rfl|rfl|rfl|rfl|rfl
   ·exact uI _ _
   ·exact uI _ _
   ·exact uI _ _
   ·exact zT _
   ·exact wK _
  exact I1.fpOk AN (I1.hok.fresh AN)
end
def N0(lo st:Int)(n:Nat):It:=⟨λi _=>i<n,λi H x H'=>H'=H/\x = .int (lo+i*st),λi _=>n<=i⟩
theorem Zo{P:Program}{w:World}{K:W.Frag}{tg:Expr}(it:Addr)(lo c:Int)(n:Nat):dz P w K tg (N0 lo c n) [it] it (λi h=>IsRangeIter h it (lo+(i:Nat)*c) ((n:Int)-(i:Nat)) c)where
 mem:=by simp
 obj:=λi h st b hb=>by
  have e:b=it:=by simpa using hb
  subst e;exact⟨_,st,λv z=>by cases(show Data.fields _=Data.cell v from z)⟩
 keep:=λi h h' st k=>k it (by simp) _ st
 item:=by
  intro X hP hw hK hc i pins s σ H E I hf st hg;subst hP hw hK;obtain⟨q0,q1,q2,q3,q4,q5⟩:=hf it (by simp);refine(Walks.range (prog:=X.prog) (w:=X.w) (I.ok.hd hc) it lo c n).item i s _ _ hg st λv h' tk hv iL kk=>?_;obtain⟨t,rfl⟩:=hv;have I1:Inv X pins σ H { s with heap:=h',toks:=tk }:=I.turned (λb o hb e=>kk b o (by simpa using hb) e) q0 q1 q3 q4 q5;exact⟨_,rfl,bq (s:={ s with heap:=h',toks:=tk }) (n:="range_iterator") iL rfl rfl (by decide) ⟨.int (lo+i*c),H,I1,⟨t,rfl⟩,⟨rfl,rfl⟩,iL,λb hb=>(hf b hb).1⟩⟩
 done:=by
  intro X hP hw hK hc i pins s σ H E I hf st hg;subst hP hw hK;obtain⟨q0,q1,q2,q3,q4,q5⟩:=hf it (by simp);exact wpAny_pyNext_range_end (I.ok.hd hc) st (by have:n<=i:=hg;lia) λh' eb=>⟨rfl,I.turned (t':=s.toks) (λb o hb e=>eb b o hb e) q0 q1 q3 q4 q5⟩
 self:=λ_ _ _ _ _ st h=>wpAny_pyIter_rangeiter st h
theorem Jv{a b c:Int}(ha:0<=a)(KG:a<=100000)(hb:0<=b)(fB:b<=100000)(hc:1<=c)(DH:c<=100000):Builtin.Range.small a b c=true:=by
 have h1:=rangeSize_toNat a b c;have h2:=rangeSize_toNat_le a b c;have h3:Builtin.Range.rangeSize a b c*c<=200000*100000:=by
  have:Builtin.Range.rangeSize a b c<=200000:=by lia
  exact Int.mul_le_mul this DH (by lia) (by decide)
 have h4:0<=Builtin.Range.rangeSize a b c*c:=Int.mul_nonneg (by lia) (by lia);have ff:∀x:Int,-(2 ^ 63)<=x->x<2 ^ 63->Builtin.Range.rangeFitsLong x=true:=λx a b=>by
  unfold Builtin.Range.rangeFitsLong;rw[zI a,zI b]
  rfl
 unfold Builtin.Range.small;generalize Builtin.Range.rangeSize a b c=n at h1 h2 h3 h4 ⊢;rw[ff a (by lia) (by lia),ff b (by lia) (by lia),ff c (by lia) (by lia),ff n (by lia) (by lia),zG (by lia),ff (b+(c-1)) (by lia) (by lia)];simp
theorem Ff{a b c:Int}{i:Nat}(hc:1<=c)(h:i<(Builtin.Range.rangeSize a b c).toNat):a+i*c<b:=by
 unfold Builtin.Range.rangeSize at h;rw[zG (by lia)]at h
 by_cases qG:a<b
 ·rw[zG qG]at h;have h1:(i:Int)<=(b-a-1) / c:=by lia
  have h2:=(Int.le_ediv_iff_mul_le (by lia)).mp h1;lia
 ·rw[zM qG]at h;simp at h
section
variable {X:Cx}
def Eb(R:It->Hp->Prop):List V->Hp->Prop:=λvs H=>match vs with
 |[.int i,.int j,.int c]=>(0<=i/\i<=100000/\0<=j/\j<=100000/\1<=c/\c<=100000)/\R (N0 i c (Builtin.Range.rangeSize i j c).toNat) H
 |_=>False
theorem Mj{R:It->Hp->Prop}{i j c:Int}{H:Hp}:Eb R [.int i,.int j,.int c] H=((0<=i/\i<=100000/\0<=j/\j<=100000/\1<=c/\c<=100000)/\R (N0 i c (Builtin.Range.rangeSize i j c).toNat) H):=rfl
def iR3(ta:TA):TI:=fun σ H R=>ta σ H (Eb R)
theorem Ph{tg a b c:Expr}{ta:TA}{p pos:Pos}(hg:Gl X "range")(hm:X.mg "range"=none)(ha:PA X [a,b,c] ta)(hs:starEach [a,b,c] X.env=[(false,eval a X.env),(false,eval b X.env),(false,eval c X.env)]:=by rfl)
  (oM:starEach [b,c] X.env=[(false,eval b X.env),(false,eval c X.env)]:=by rfl):PI X tg (.Call (.Name "range" p) [a,b,c] [] pos) (iR3 ta):=by
 intro pins s σ H R I h;refine Call_ (tu I hg hm boot_range (xC (thn (ha pos pins s σ H _ I h) λus s1 ⟨vs,H1,I1,r1,q1⟩=>?_) (by rw[hs,oM]) (by rw[oM];rfl)))
 match vs,q1 with
 |[.int i,.int j,.int c],q1 =>
  obtain⟨⟨a1,a2,a3,a4,a5,a6⟩,q⟩:=(show(0<=i/\i<=100000/\0<=j/\j<=100000/\1<=c/\c<=100000)/\R (N0 i c (Builtin.Range.rangeSize i j c).toNat) H1 from q1)
  cases r1 with
  |cons ru r1 =>
  obtain⟨u2,u3,rfl,r2,r3⟩:=lj r1;obtain⟨t,rfl⟩:=ru;obtain⟨t',rfl⟩:=r2;obtain⟨t'',rfl⟩:=r3;refine call_range_3 (by lia) ?_ (.inl (PyProof.noPylong_small (by lia)));refine wpAny_pyIter_range (IsRange.new ..) (Jv a1 a2 a3 a4 a5 a6) ?_;have I2:Inv X pins σ H1 { s1 with heap:=s1.heap.push { cls:=.type "range",data:=.fields #[.int i t,.int j t',.int c t''] },toks:=s1.toks }:=I1.kept λb o e=>zY _ e;refine⟨_,[(s1.heap.push { cls:=.type "range",data:=.fields #[.int i t,.int j t',.int c t''] }).objs.size],_,_,H1,rfl,I2.kept (t':=s1.toks) λb o e=>zY _ e,Zo _ i c (Builtin.Range.rangeSize i j c).toNat,?_,λb hb=>?_,q⟩
  ·have e1:i+((0:Nat):Int)*c=i:=by simp
   have e2:(((Builtin.Range.rangeSize i j c).toNat:Nat):Int)-((0:Nat):Int)=Builtin.Range.rangeSize i j c:=by rw[<-rangeSize_toNat];simp
   show IsRangeIter _ _ (i+((0:Nat):Int)*c) ((((Builtin.Range.rangeSize i j c).toNat:Nat):Int)-((0:Nat):Int)) c;rw[e1,e2];exact zS _ rfl
  ·have e:b=(s1.heap.push { cls:=.type "range",data:=.fields #[.int i t,.int j t',.int c t''] }).objs.size:=by simpa using hb
   subst e;exact I2.fpOk (zT _) (I2.hok.fresh (zT _))
end
theorem Yz{lo st:Int}{n:Nat}{g:TG}{tb:TS}{D:wa}{σ:St}{H:Hp}(Pv:Nat->St->Hp->Prop)(h0:Pv 0 σ H)
  (hs:∀i σ H,i<n->Pv i σ H->g (.int (lo+(i:Int)*st)) σ H fun σ2 H2=>tb { D with nx:=Pv (i+1),ct:=Pv (i+1),bk:=D.nx } σ2 H2) (hd:∀σ H,Pv n σ H->D.nx σ H):Zu g tb (N0 lo st n) D σ H :=
 o9 Pv h0 (λi _ _ hi _=>hi) (λ_ _ _=>zT _) (λi v σ H H' hi p y=>by
  obtain⟨rfl,rfl⟩:=y;exact hs i σ _ hi p) hd
end
section
structure Mk0(K:W.Frag)(C:Addr):Prop where
 makes:W.makesIn K C=true
 init:W.findIn K (.ref C) "__init__"=some (some (.builtin "object.__init__"))
 kp:W.keepIn K (.ref C)=true
def J2(C:Addr):TE:=λ_ H Q=>∀x dx,H x=none->H dx=none->dx≠x->Q (.ref x) (upd (upd H dx (.own x)) x (.ins C dx []))
section
variable {X:Cx}
end
structure DefM(K:W.Frag)(C:Addr)(x qual:Str)(st:Stmt)(ps:List Str):Prop where
 ex:∃(f:Addr)(fd:FuncData),Fun K x qual st f fd/\(∀us:List Value,us.length=ps.length->bindArgs fd ⟨us,[]⟩=pure (ps.zip us))/\R3 K C x f/\Cls K C
structure qo(P:Program)(w:World)(K:W.Frag)(mg:Str->Option Value)(base:Heap)(k:Nat)(C:Addr)(x:Str)(ps:List Str)(sp:Sp):Prop where
 ex:∃(f:Addr)(fd:FuncData),vc P w K mg base CX0 k f fd ps sp/\Binds K fd ps []/\R3 K C x f/\Cls K C
section
variable {P:Program}{w:World}{K:W.Frag}{mg:Str->Option Value}{base:Heap}
theorem DefM.callee{C:Addr}{x qual:Str}{st:Stmt}{N ps:List Str}{k:Nat}{sp:Sp}(F:DefM K C x qual st ps)(S:zm N ps (zy st))(len:∀vs H Q E,sp vs H Q E->vs.length=ps.length)
  (bF:∀(f:Addr)(cdv:Value)(A:Around)(outer:List Env)(s:Shared)(H:Hp)(vs:List V)(Q:VK)(E:XK),Room k (A.deeper (envOfC qual (zy st) s.heap.objs.size f cdv))->sp vs H Q E ->
   ∃σ t,start N vs=σ/\PSs (ww CX0 P w K mg base N qual (zy st) f cdv A outer s H E).nox (zr st) t/\t { nx:=λ_ H'=>Q .non H',rt:=Q } σ H):qo P w K mg base (k+1) C x ps sp:=by
 obtain⟨f,fd,F,b,hm,hc⟩:=F.ex;refine⟨f,fd,F.ok S len λcdv A outer s H vs Q E hr h=>?_,.all b,hm,hc⟩;obtain⟨σ,t,e,ht,q⟩:=bF f cdv A outer s H vs Q E hr h;exact⟨t,ht,by rw[e];exact q⟩
theorem j7{X:Cx}{C:Addr}{k k':Nat}{x:Str}{ps:List Str}{sp:Sp}{ta:TE}{t:TA}{o e:Expr}{es:List Expr}{pos apos:Pos}{pl:Sem Bool}(C':qo X.prog X.w X.K X.mg X.base k C x ps sp)(hr:Room k' X.A)(hk:k<=k')(ho:PE X o ta)(ha:PA X (e::es) t)
  (gY:starEach (e::es) X.env=(false,eval e X.env)::starEach es X.env:=by rfl) (dE:(backTo pos (starEach es X.env)).any (·.1)=false:=by rfl)
  (ht:eval (.Call (.Attribute o x apos) (e::es) [] pos) X.env=(do
   let ov <-eval o X.env;standAt apos.atName
   let(f,first) <-holding [ov] (getMethod ov x pl);callWith pos f first (backTo pos (starEach (e::es) X.env)) (backToKw pos (keywordEach [] X.env))):=by rfl) :
  PE X (.Call (.Attribute o x apos) (e::es) [] pos) (dq C x sp [] E0 ta t):=by
 obtain⟨f,fd,F,b,hm,hc⟩:=C'.ex;exact Vb (pl:=pl) ho hc hm F (hr.mono hk) b .nil Qb ha gY dE ht
end
def zb(st:Stmt)(j:Nat):Stmt:=match st with
 | .ClassDef _ _ _ b _ _ _ _ _ _ _=>b.getD j (.Pass ⟨0,0,0,0⟩)
 |_=>.Pass ⟨0,0,0,0⟩
theorem qr{K:W.Frag}{C:Addr}{x qual:Str}{st:Stmt}{ps:List Str}{f:Addr}{oc:Value}{od an:Option Addr}{osl:Array (Option Value)}{kV doc pm cdv ct:Value}
  (a:W.findIn K (.ref C) x=some (some (.ref f))) (l:K.lookup f=some ⟨oc,od,.func (W.fnOf x qual (zp st) (zr st) (zy st) .none kV doc pm an cdv ct),osl⟩)
  (c:W.codeIn K cdv qual=true) (k:W.keepIn K (.ref f)=true) (fn:W.isFn K (.ref f)=true) (cl:Cls K C)
  (hb:∀(kV doc pm:Value)(an:Option Addr)(cdv ct:Value)(us:List Value),us.length=ps.length->bindArgs (W.fnOf x qual (zp st) (zr st) (zy st) .none kV doc pm an cdv ct) ⟨us,[]⟩=pure (ps.zip us)):DefM K C x qual st ps :=
 ⟨f,_,Z3 l c k,hb kV doc pm an cdv ct,⟨a,fn,k⟩,cl⟩
end
section
theorem V7:bootBuiltins "str"=some (.type "str"):=by decide +kernel
section
variable {X:Cx}
def sr(k:Str->Hp->Prop):V->Hp->Prop:=λx H=>match x with
 | .str c=>k c H
 |_=>False
theorem P7{k:Str->Hp->Prop}{c:Str}{H:Hp}:sr k (.str c) H=k c H:=rfl
def PF(X:Cx)(es:List Expr)(t:Str->TE):Prop:=∀(out:Str)(pins:List (Addr×Obj))(s:Shared)(σ:St)(H:Hp)(Q:VK),Inv X pins σ H s->t out σ H Q->wpAny (model X.prog X.w) X.A (joinParts out (evalEach es X.env)) (EP X pins σ Q) X.xe s
def tF0:Str->TE:=λout _ H Q=>out.length<=sizeLine/\Q (.str out) H
def tFC(te:TE)(t:Str->TE):Str->TE:=λout σ H Q=>te σ H (sr λy H1=>(out++y).length<=sizeLine/\t (out++y) σ H1 Q)
def tFv(te:TE):TE:=fun σ H Q=>te σ H (sr λy H1=>y.length<=sizeLine/\Q (.str y) H1)
theorem Xm:PF X [] tF0:=λout pins s σ H Q I h=>joinParts_nil ⟨.str out,H,I.tok _,⟨_,rfl⟩,h.2⟩ h.1
theorem uc{e:Expr}{es:List Expr}{te:TE}{t:Str->TE}(ha:PE X e te)(hr:PF X es t)(hs:evalEach (e::es) X.env=eval e X.env::evalEach es X.env:=by rfl):PF X (e::es) (tFC te t):=by
 intro out pins s σ H Q I h;rw[hs];refine joinParts_cons (thn (ha pins s σ H _ I h) λv s1 ⟨x,H1,I1,r1,q1⟩=>?_);cases x with
 |str y =>
  obtain⟨t1,rfl⟩:=r1;obtain⟨h2,h3⟩:=(show(out++y).length<=sizeLine/\t (out++y) σ H1 Q from q1)
  exact⟨h2,hr _ pins s1 σ H1 Q I1 h3⟩
 |_=>exact(show False from q1).elim
theorem Qd{e:Expr}{te:TE}{pos:Pos}(ha:PE X e te):PE X (.FormattedValue e (-1) none pos) (tFv te):=by
 intro pins s σ H Q I h;refine FormattedValue_plain (thn (ha pins s σ H _ I h) λv s1 ⟨x,H1,I1,r1,q1⟩=>?_);cases x with
 |str y =>
  obtain⟨t1,rfl⟩:=r1;obtain⟨h2,h3⟩:=(show y.length<=sizeLine/\Q (.str y) H1 from q1)
  exact formatField_str (λt' tk=>⟨.str y,H1,I1.tok _,⟨_,rfl⟩,h3⟩) h2
 |_=>exact(show False from q1).elim
theorem W1{e1 e2:Expr}{es:List Expr}{t:Str->TE}{pos:Pos}(h:PF X (e1::e2::es) t):PE X (.JoinedStr (e1::e2::es) pos) (t Str.empty):=λpins s σ H Q I q=>JoinedStr_many (h _ pins s σ H Q I q)
def tJn(K:W.Frag)(to:TE)(t:TA):TE:=fun σ H Q=>to σ H (sr λx H1=>t σ H1 (on1 (Y7 λp H2=>∃ys:List Str,SqL K H2 p (ys.map V.str)/\(ys.map (·.length)).sum+ys.length*x.length<=16777216/\Q (.str (Txt.join x ys)) H2)))
def Hl:List V->Hp->VK->Prop:=λxs H Q=>match xs with
 |[.bl k]=>Q (.int (if k=true then 1 else 0)) H
 |_=>False
theorem Jf{k:Bool}{H:Hp}{Q:VK}:Hl [.bl k] H Q=Q (.int (if k=true then 1 else 0)) H:=rfl
end
theorem yo(x y:Str):(x++y).length=x.length+y.length:=by
 show(x.cps++y.cps).size=_;exact tJ
def Say.text:Say->Str
 | .letter x=>x
 | .neg s=>Str.ofString "not "++s.text
 | .bin .con s t=>Str.ofString "("++s.text++Str.ofString " "++Str.ofString "and"++Str.ofString " "++t.text++Str.ofString ")"
 | .bin .dis s t=>Str.ofString "("++s.text++Str.ofString " "++Str.ofString "or"++Str.ofString " "++t.text++Str.ofString ")"
 | .bin .imp s t=>Str.ofString "(if "++s.text++Str.ofString " then "++t.text++Str.ofString ")"
theorem Jt:(Str.ofString "not ").length=4:=by decide +kernel
theorem Kz:(Str.ofString "(").length=1:=by decide +kernel
theorem Q3:(Str.ofString ")").length=1:=by decide +kernel
theorem Ky:(Str.ofString " ").length=1:=by decide +kernel
theorem Jr:(Str.ofString "and").length=3:=by decide +kernel
theorem Fn:(Str.ofString "or").length=2:=by decide +kernel
theorem Fm:(Str.ofString "(if ").length=4:=by decide +kernel
theorem Nf:(Str.ofString " then ").length=6:=by decide +kernel
theorem xa:∀s:Say,(∀x∈s.letters,Nm x)->s.text.length<=40*s.pieces
 | .letter x,h=>by
  have:=(h x (zX.mpr rfl)).1;simp only[Say.text,Say.pieces];lia
 | .neg s,h=>by
  have:=xa s h;simp only[Say.text,Say.pieces,yo,Jt];lia
 | .bin .con s t,h=>by
  have h1:=xa s λx hx=>h x (zK.mpr (.inl hx));have h2:=xa t λx hx=>h x (zK.mpr (.inr hx));simp only[Say.text,Say.pieces,yo,Kz,Q3,Ky,Jr];lia
 | .bin .dis s t,h=>by
  have h1:=xa s λx hx=>h x (zK.mpr (.inl hx));have h2:=xa t λx hx=>h x (zK.mpr (.inr hx));simp only[Say.text,Say.pieces,yo,Kz,Q3,Ky,Fn];lia
 | .bin .imp s t,h=>by
  have h1:=xa s λx hx=>h x (zK.mpr (.inl hx));have h2:=xa t λx hx=>h x (zK.mpr (.inr hx));simp only[Say.text,Say.pieces,yo,Fm,Q3,Nf];lia
def ut:Say->PyData
 | .letter x=>.tuple [.str (Str.ofString "letter"),.str x]
 | .neg s=>.tuple [.str (Str.ofString "not"),ut s]
 | .bin o s t=>.tuple [.str o.word,ut s,ut t]
theorem lw{K:W.Frag}{H:Hp}:∀{s:Say}{v:V},SayAt K H v s->Has K H v (ut s)
 | .letter x,v,⟨a,e,h⟩=>by
  subst e;unfold ut Has;exact⟨a,_,rfl,h,bt K H [_,_]⟩
 | .neg s,v,⟨a,u,e,h,h1⟩=>by
  subst e;have i1:=lw h1;unfold ut Has;refine⟨a,_,rfl,h,?_⟩;unfold HasL;refine⟨_,_,rfl,by unfold Has;rfl,?_⟩;unfold HasL;refine⟨_,_,rfl,i1,?_⟩;simp[HasL]
 | .bin o s t,v,⟨a,u,u',e,h,h1,h2⟩=>by
  subst e;have i1:=lw h1;have i2:=lw h2;unfold ut Has;refine⟨a,_,rfl,h,?_⟩;unfold HasL;refine⟨_,_,rfl,by unfold Has;rfl,?_⟩;unfold HasL;refine⟨_,_,rfl,i1,?_⟩;unfold HasL;refine⟨_,_,rfl,i2,?_⟩;simp[HasL]
theorem Ti:PyData.strOk (Str.ofString "letter")=true:=by decide +kernel
theorem Ia:PyData.strOk (Str.ofString "not")=true:=by decide +kernel
theorem Mg:∀o:Op2,PyData.strOk o.word=true
 | .con=>by show PyData.strOk (Str.ofString "and")=true;decide +kernel
 | .dis=>by show PyData.strOk (Str.ofString "or")=true;decide +kernel
 | .imp=>by show PyData.strOk (Str.ofString "if")=true;decide +kernel
theorem l8:∀s:Say,(∀x∈s.letters,Nm x)->PyData.canLay0 (ut s)=true/\PyData.depth (ut s)<=s.pieces
 | .letter x,h=>by
  have:=(h x (zX.mpr rfl)).2;constructor
  ·simp[ut,PyData.canLay0,PyData.canLayAll0,this,Ti]
  ·simp[ut,PyData.depth,PyData.depthAll,Say.pieces]
 | .neg s,h=>by
  obtain⟨h1,h2⟩:=l8 s h;constructor
  ·simp[ut,PyData.canLay0,PyData.canLayAll0,h1,Ia]
  ·simp[ut,PyData.depth,PyData.depthAll,Say.pieces,h2]
 | .bin o s t,h=>by
  obtain⟨h1,h2⟩:=l8 s λx hx=>h x (zK.mpr (.inl hx));obtain⟨h3,h4⟩:=l8 t λx hx=>h x (zK.mpr (.inr hx));constructor
  ·simp[ut,PyData.canLay0,PyData.canLayAll0,h1,h3,Mg]
  ·simp[ut,PyData.depth,PyData.depthAll,Say.pieces];lia
theorem br{K:W.Frag}{H:Hp}:∀{us:List V}{ts:List Say},SaysAt K H us ts->HasL K H us (ts.map ut)
 |[],[],_=>by simp[HasL]
 |u::us,t::ts,h=>by
  have ih:=br h.2;rw[List.map_cons];unfold HasL;exact⟨_,_,rfl,lw h.1,ih⟩
theorem Yv:∀ts:List Say,(∀t∈ts,t.pieces<=40/\∀x∈t.letters,Nm x)->PyData.canLayAll0 (ts.map ut)=true/\PyData.depthAll (ts.map ut)<=40
 |[],_=>by simp[PyData.canLayAll0,PyData.depthAll]
 |t::ts,h=>by
  obtain⟨h1,h2⟩:=Yv ts λu hu=>h u (zO _ hu);have ht:=h t zD;obtain⟨a1,a2⟩:=l8 t ht.2;rw[List.map_cons];refine⟨?_,?_⟩
  ·rw[PyData.canLayAll0,h1,Bool.and_true,a1]
  ·rw[PyData.depthAll];lia
end
end My
namespace My
open PySem
theorem mm{us:List Value}(h:us.length=1):∃a,us=[a]:=by
 cases us with
 |nil=>cases h
 |cons a us=>exact⟨a,by rw[vK.mp (Nat.succ.inj h)]⟩
theorem ro{us:List Value}(h:us.length=2):∃a b,us=[a,b]:=by
 cases us with
 |nil=>cases h
 |cons a us=>obtain⟨b,e⟩:=mm (Nat.succ.inj h);exact⟨a,b,by rw[e]⟩
theorem Wm{us:List Value}(h:us.length=3):∃a b c,us=[a,b,c]:=by
 cases us with
 |nil=>cases h
 |cons a us=>obtain⟨b,c,e⟩:=ro (Nat.succ.inj h);exact⟨a,b,c,by rw[e]⟩
theorem A9{us:List Value}(h:us.length=4):∃a b c d,us=[a,b,c,d]:=by
 cases us with
 |nil=>cases h
 |cons a us=>obtain⟨b,c,d,e⟩:=Wm (Nat.succ.inj h);exact⟨a,b,c,d,by rw[e]⟩
end My
namespace My
open PySem PySem.Spec PySem.W PySem.Calls L2
open PyProof.Rows hiding St
section
def Fly(h:Heap)(a C:Addr)(dx:Option Addr)(fl:Option (Addr×Value)):Prop :=
 ∃oe vs,h.get? a=some oe/\oe.cls = .ref C/\oe.dict=dx/\oe.data = .fields vs/\vs[2]?=some .none/\match fl with
  |none=>vs[1]?=some .none
  |some (T,v)=>vs[1]?=some (.ref T)/\T≠a/\∃oT ts,h.get? T=some oT/\oT.data = .fields ts/\ts[3]?=some v
structure N4(fs:List Addr)(a:Addr)(old:Option (Addr×Value))(h h':Heap):Prop where
 keep:∀b o,h.get? b=some o->b∉fs->b≠a->(∀T v,old=some (T,v)->b≠T)->h'.get? b=some o
 slot:∀b o,h.get? b=some o->b∈fs->∃sl,h'.get? b=some { o with slots:=sl }
 there:∀b o,h.get? b=some o->∃o',h'.get? b=some o'
section
variable {M:Model}{A:Around}{E:Value->Shared->Prop}{s:Shared}{base:Heap}{env:Env}{outer:List Env}{L a C:Addr}{dx:Option Addr}
theorem j8(o:Obj)(f:Array Value->Array Value):(o.mapFields f).dict=o.dict:=by
 obtain⟨c,d,dt,sl⟩:=o;cases dt<;>rfl
theorem Y4{oe:Obj}{vs:Array Value}{head:Value}{DK:Bool}{Q:Unit->Shared->Prop}(HJ:A.frames=some (env::outer))(hl:s.heap.FunFrames base (env::outer))(hf:env.frame=some L)
  (he:s.heap.get? a=some oe) (hc:oe.cls = .ref C) (nN:oe.dict=dx) (hd:oe.data = .fields vs) (h2:vs[2]?=some .none) (bY:1<vs.size)
  (h:∀h' T,s.heap.objs.size<=T->N4 (frs (env::outer)) a none s.heap h'->Fly h' a C dx (some (T,rawInt L))->Q () { s with heap:=h' }) :
  wpAny M A (do let x <-frameOf env;let pl <-entryPlaceOf L DK;let b <-EntryCells.newEntry head x .none (rawInt L) .none pl;setField (.ref a) 1 b) Q E s:=by
 have UZ:a∉(env::outer).filterMap (·.frame):=λhm=>by
  obtain⟨_,o,ho,HH⟩:=hl.mem hm;rw[he]at ho;injection ho with ho;subst ho;exact HH vs hd
 refine zZ (wpAny_frameOf_fun HJ hl hf λh₁ hs₁=>?_);refine zZ (wpAny_entryPlaceOf λpl dE=>?_);unfold EntryCells.newEntry newFields;refine zZ (yE ?_ (dE.sizeOk5 _ _ _ _ _));have he₁:h₁.get? a=some oe:=(hs₁.2.1 a UZ).trans he;have he₂:=zY (h:=h₁) { cls:=.type "traceback",dict:=none,data:=.fields ([head,.ref L,.none,rawInt L,.none]++(if pl.isEmpty then List.replicate 6 Value.none else pl)).toArray } he₁;refine tG he₂ hd bY ?_;have CQ:h₁.objs.size≠a:=wF (zU he₁);have hd₃:=wS hd (·.setIfInBounds 1 (Value.ref h₁.objs.size));have he₃:=yC (Obj.mapFields (·.setIfInBounds 1 (Value.ref h₁.objs.size))) he₂ (vX hd₃);have hT₃:=(yR (h₁.push { cls:=.type "traceback",dict:=none,data:=.fields ([head,.ref L,.none,rawInt L,.none]++(if pl.isEmpty then List.replicate 6 Value.none else pl)).toArray })
  (Obj.mapFields (·.setIfInBounds 1 (Value.ref h₁.objs.size))) (wU CQ)).trans (zS h₁ rfl)
 have keep:∀b o,b≠a->h₁.get? b=some o ->
   ((h₁.push { cls:=.type "traceback",dict:=none,data:=.fields ([head,.ref L,.none,rawInt L,.none]++(if pl.isEmpty then List.replicate 6 Value.none else pl)).toArray }).update a (Obj.mapFields (·.setIfInBounds 1 (Value.ref h₁.objs.size)))).get? b=some o:=λb o AR hb=>by
  rw[yR _ _ (wU AR)];exact zY _ hb
 refine h _ h₁.objs.size (by rw[hs₁.1];exact zT _) ⟨λb o hb hf KE _=>keep b o KE ((hs₁.2.1 b hf).trans hb),λb o hb hf=>?_,λb o hb=>?_⟩ ?_
 ·obtain⟨sl,e⟩:=hs₁.2.2 b o hb;exact⟨sl,keep b _ (λz=>UZ (z▸hf)) e⟩
 ·by_cases z:b=a
  ·subst z;exact⟨_,he₃⟩
  ·obtain⟨sl,e⟩:=hs₁.2.2 b o hb;exact⟨_,keep b _ z e⟩
 ·exact⟨_,_,he₃,(Obj.cls_mapFields _ _).trans hc,(j8 _ _).trans nN,hd₃,by rw[Array.getElem?_setIfInBounds_ne (by decide)];exact h2,by simp[bY],CQ,_,_,hT₃,rfl,by first|(simp;done)|(rcases dE with rfl|⟨_,_,_,_,_,_,_,rfl⟩<;>simp)⟩
theorem Xb{old:Option (Addr×Value)}{Q:Unit->Shared->Prop}(HJ:A.frames=some (env::outer))(hl:s.heap.FunFrames base (env::outer))(hf:env.frame=some L)
  (F:Fly s.heap a C dx old) (ho:∀T v,old=some (T,v)->v = .none)
  (h:∀h' T,s.heap.objs.size<=T->N4 (frs (env::outer)) a old s.heap h'->Fly h' a C dx (some (T,rawInt L))->Q () { s with heap:=h' }) :
  wpAny M A (noteFrame (.ref a) env) Q E s:=by
 obtain⟨oe,vs,he,hc,nN,hd,h2,r⟩:=F;cases old with
 |none =>
  unfold noteFrame;simp only[hf];refine zZ (yF he hd r ?_);rw[zM (by decide)];exact Y4 HJ hl hf he hc nN hd h2 (yD.mp r).1 h
 |some p =>
  obtain⟨T,v⟩:=p;obtain rfl:=ho T v rfl;obtain⟨h1,CQ,oT,ts,hT,AO,h3⟩:=r;unfold noteFrame;simp only[hf];refine zZ (yF he hd h1 ?_);rw[zG (show(Value.ref T != Value.none)=true from by simp)];refine zZ (yF hT AO h3 ?_);rw[zM (show¬((Value.none==rawInt L)=true)from by simp[rawInt])];refine zZ (tG hT AO (yD.mp h3).1 ?_);have other:∀b,b≠T->(s.heap.update T (Obj.mapFields (·.setIfInBounds 3 Value.none))).get? b=s.heap.get? b:=λb hb=>yR _ _ (wU hb);have qA:∀b o,s.heap.get? b=some o->(∀vs,o.data≠.fields vs)->b≠T:=λb o hb HH q=>by
   rw[q,hT]at hb;injection hb with hb;subst hb;exact HH ts AO
  have VE:=yC (Obj.mapFields (·.setIfInBounds 3 Value.none)) hT (vX (wS AO _));refine Y4 (s:={ s with heap:=s.heap.update T (Obj.mapFields (·.setIfInBounds 3 Value.none)) }) (base:=base) HJ (hl.of_keeps λb o hb HH=>⟨o,(other b (qA b o hb HH)).trans hb,rfl⟩) hf ((other a (wU CQ)).trans he) hc nN hd h2 (yD.mp h1).1 λh' T' hn N F=>?_;refine h h' T' (yQ (uH (Heap.size_after_update ..).symm) hn) ⟨λb o hb UW KE hbT=>N.keep b o ((other b (hbT T _ rfl)).trans hb) UW KE (λ_ _ z=>nomatch z),λb o hb UW=>N.slot b o ((other b (qA b o hb λws q=>?_)).trans hb) UW,λb o hb=>?_⟩ F
  ·obtain⟨_,o',sV,HH⟩:=hl.mem (b:=b) UW;rw[hb]at sV;cases sV;exact HH ws q
  ·by_cases z:b=T
   ·subst z;exact N.there b _ VE
   ·exact N.there b o ((other b z).trans hb)
theorem o4{T:Addr}{v:Value}{Q:Unit->Shared->Prop}(F:Fly s.heap a C dx (some (T,v)))
  (h:∀h',(∀b o,b≠T->s.heap.get? b=some o->h'.get? b=some o)->Fly h' a C dx (some (T,.none))->Q () { s with heap:=h' }):wpAny M A (setFlight (.ref a) none) Q E s:=by
 obtain⟨oe,vs,he,hc,nN,hd,h2,h1,CQ,oT,ts,hT,AO,h3⟩:=F;refine wpAny_setFlight_none he hd h1 hT AO (yD.mp h3).1 (h _ (λb o hb e=>(yR _ _ (wU hb)).trans e) ?_);have bY:=(yD.mp h3).1;exact⟨oe,vs,(yR _ _ CQ).trans he,hc,nN,hd,h2,h1,CQ,_,_,yC _ hT (vX (wS AO _)),wS AO _,by simp[Array.getElem?_setIfInBounds,bY]⟩
end
end
section
open Builtin Builtin.ObjectAttr
def vbm:List Value:=[.type "ValueError",.type "Exception",.type "BaseException",.type "object"]
def Y8:List Value->Bool
 | .ref _::r=>Y8 r
 |l=>l==vbm
def xIn(K:Frag)(C:Addr):Bool:=match K.lookup C with
 |some ⟨.type "type",_,.cls cd,sl⟩=>(match cd.mro,sl.toList with
  | .ref C'::bm,[_,_,_,_,some (.builtin n),_]=>C'==C&&n=="ValueError.__new__"&&!cd.hasDel&&cd.hasDict&&tailIn K vbm bm&&Y8 bm
  |_,_=>false)
 |_=>false
structure XO(K:Frag)(C:Addr)(h:Heap)(cd:ClassData):Prop where
 at_:clsIn K C=some cd
 hd:cd.hasDict=true
 obj:∃bm N nm q bs hdct sn sub ab col dd k0 k1 k2 k3 k5,h.get? C=some (excClassObj nm q C N bs bm hdct sn sub ab col dd k0 k1 k2 k3 k5 "ValueError.__new__")/\OwnTail h vbm bm/\cd.mro = .ref C::bm
 over:Y8 cd.mro=true
theorem Ge{K:Frag}{C:Addr}{h:Heap}(X:K.In h)(q:xIn K C=true):∃cd,XO K C h cd:=by
 unfold xIn at q;split at q
 ·rename_i dd cd sl ho;split at q
  ·rename_i C' bm k0 k1 k2 k3 n k5 hm hs;simp only[yY,wM,Bool.not_eq_true']at q;obtain⟨⟨⟨⟨⟨rfl,rfl⟩,BS⟩,hdi⟩,ht⟩,hov⟩:=q;refine⟨cd,by unfold clsIn;rw[ho],hdi,?_,by rw[hm];exact hov⟩;obtain⟨nm,bs,mro,ns,qn,hd,sn,sub,ab,col,del⟩:=cd;dsimp only at hm BS;subst hm BS;have EM:sl=#[k0,k1,k2,k3,some (.builtin "ValueError.__new__"),k5]:=by
    obtain⟨l⟩:=sl;simp only at hs;rw[hs]
   subst EM;exact⟨bm,ns,nm,qn,bs,hd,sn,sub,ab,col,dd,k0,k1,k2,k3,k5,X _ _ ho,tail_of_in X ht,rfl⟩
  ·cases q
 ·cases q
theorem cn{n:String}(h:vbm.contains (.type n)=true):∀{l:List Value},Y8 l=true->l.contains (.type n)=true
 |[],e=>by cases e
 |v::r,e=>by
  cases v with
  |ref c=>rw[List.contains_cons,cn h (l:=r) e,Bool.or_true]
  |_=>rw[eq_of_beq (show((_::r)==vbm)=true from e)];exact h
theorem Y9(self:Value):∀{l:List Value},Y8 l=true->refuseLoop self "__setattr__" l=pure ()
 |[],e=>by cases e
 |v::r,e=>by
  cases v with
  |ref c=>rw[refuseLoop_ref];exact Y9 self (l:=r) e
  |_=>rw[eq_of_beq (show((_::r)==vbm)=true from e)];exact F.store_ValueError.passes self
section
variable {prog:Program}{w:World}{A:Around}{E:Value->Shared->Prop}{s:Shared}{K:Frag}{a C:Addr}
theorem Tp{R:Result->Shared->Prop}{ox:Obj}{od:Option Obj}{name:Str}{tk:Tok}{v:Value}{cd:ClassData}(X:K.In s.heap)(I:InstAt s.heap a ox C od)(x:XO K C s.heap cd)(ht:takerIn K C name=some none)
  (h:∀b,wpAny (model prog w) A.in1 (storeInOwnDict (.ref a) (.ref C) (.str name tk) name v b)
   (λcJ s'=>match cJ with|.done f=>R (.ok f) s'|.again c'=>c'.quiet=true/\codeAny (model prog w) A c' R s') (λe s'=>R (.error e) s') s) :
  codeAny (model prog w) A (.call (.builtin "object.__setattr__") ⟨[.ref a,.str name tk,v],[]⟩) R s:=by
 have SF:=F.store_object;have ne:cd.mro.isEmpty=false:=by cases q:cd.mro with|nil=>have:=x.over;rw[q]at this;cases this|cons _ _=>rfl
 have sub:Looks (model prog w) s.heap (isInstance (.ref a) (.type "object")) true:=I.type.andThen (looks_mroIn X (by unfold mroIn;rw[x.at_,Option.bind_some,zM (by rw[ne];decide),cn (by decide) x.over]));refine uQ SF.slot.plain SF.entry (@check_slot (model prog w) _ _ s "object.__setattr__" "object" "__setattr__" (.ref a) [.str name tk,v] [] _ SF.kind SF.split sub (SF.args (.ref a) (.str name tk) v) ?_);obtain⟨ZG,ha,hr⟩:=Option.bind_eq_some_iff.mp ht;have hm:Looks (model prog w) s.heap (mroOf (.ref C)) cd.mro:=(looks_clsIn X x.at_).andThen .now;have L3:Looks (model prog w) s.heap (storeTaker? ZG) none:=by
  cases ZG with
  |none=>exact .now
  |some a =>
   obtain⟨b,hb,e⟩:=Option.map_eq_some_iff.mp hr;refine(looks_takesIn X hb).andThen ?_;cases b with
   |false=>exact .now
   |true=>cases e
 rw[osa_eq,refuse_eq];refine zZ (zZ (I.type.here (zZ (hm.here ?_))));rw[Y9 _ x.over];refine zW (zZ (I.type.here (zZ ((looks_findIn X ha).here (zZ (L3.here ?_))))));exact h _
theorem Fi{oe:Obj}{vs:Array Value}{name:Str}{v:Value}{cd:ClassData}{Q:Unit->Shared->Prop}(X:K.In s.heap)(x:XO K C s.heap cd)(hs:findIn K (.ref C) "__setattr__"=some (some (.builtin "object.__setattr__")))(ht:takerIn K C name=some none)
  (he:s.heap.get? a=some oe) (hc:oe.cls = .ref C) (KA:oe.dict=none) (hd:oe.data = .fields vs)
  (h:∀h' dx tk,s.heap.objs.size<=dx->h'.Ns1 dx (λy=>if y=name then some v else none)->h'.get? a=some { oe with dict:=some dx }->(∀b o,b≠a->s.heap.get? b=some o->h'.get? b=some o)->Q () { s with heap:=h',toks:=tk }) :
  wpAny (model prog w) A (setAttr (.ref a) name v) Q E s:=by
 have I:InstAt s.heap a oe C none:=⟨he,hc,by unfold notCls;rw[hd],by rw[KA];trivial⟩
 refine set_plain X I hs (Tp (s:={ s with toks:=s.toks+1 }) X I x ht λb=>?_);obtain⟨oc,od,dt,sl⟩:=oe;dsimp only at hc KA hd;subst hc KA hd;obtain⟨hh,g,d,t,os⟩:=s;have he₁:(hh.push { cls:=.type "dict",data:=.dict #[] }).get? a=some ⟨.ref C,none,.fields vs,sl⟩:=zY _ he;have hxs:a≠hh.objs.size:=zC (zU he);refine zZ (zW (zZ (zZ (wpAny_loadPart he (zZ (W.Looks.here (looks_clsIn X x.at_) ?_))))));rw[x.hd];show wpAny _ _ _ _ _ _;refine zZ (wpAny_alloc' ?_);refine zZ (wpAny_update' he₁ ?_);refine zW ?_;have hgd:((hh.push { cls:=.type "dict",data:=.dict #[] }).update a λo=>{ cls:=o.cls,dict:=some hh.objs.size,data:=o.data,slots:=o.slots }).get? hh.objs.size
  =some { cls:=.type "dict",data:=.dict #[] }:=(Heap.get?_update_ne _ _ _ _ hxs.symm).trans (Heap.get?_push_at rfl rfl)
 have EQ:((hh.push { cls:=.type "dict",data:=.dict #[] }).update a λo=>{ cls:=o.cls,dict:=some hh.objs.size,data:=o.data,slots:=o.slots }).Ns hh.objs.size (λ_=>none) :=
  ⟨_,#[],_,hgd,rfl,λe he=>absurd he (by simp),λ_=>rfl⟩
 show wpAny _ _ (storeInDict hh.objs.size (.str name t) name v) _ _ _;unfold storeInDict newKeyGuard;refine zZ (zW (zZ (wpAny_nsSet1 (Heap.Ns1.of_empty EQ) λh' CP hs=>?_)));obtain⟨oD,esD,epD,hoD,hdD,BU⟩:=CP.count (Within.cons name v Within.nil);refine zZ (wpAny_lookBehind hoD (by rw[hdD];exact pastItsLine_dict (yQ BU (by rw[yL,wH,yZ];lia))) ?_);refine zW (h h' hh.objs.size _ (zT _) CP ?_ λb o hb e=>?_)
 ·refine(hs.2 a hxs).trans (yC _ he₁ rfl)
 ·exact(hs.2 b (zC (zU e))).trans ((Heap.get?_update_ne _ _ _ _ hb).trans (zY _ e))
end
end
section
open Builtin Builtin.ObjectAttr
section
variable {prog:Program}{w:World}{A:Around}{E:Value->Shared->Prop}{h:Heap}{g:Array GenState}{d:Drawn}{t:Nat}{os:OsState}{K:Frag}{a C:Addr}
theorem mn{bm:List Value}{N:Addr}{nm q:Str}{bs:List Value}{hdct:Bool}{sn:List Str}{sub:List Value}{ab:Bool}{col:Option Bool}{dd:Option Addr}{k0 k1 k2 k3 k5:Option Value}{rest:List Value}{fI:Addr}{Q:Fin->Shared->Prop}(X:K.In h)
  (hC:h.get? C=some (excClassObj nm q C N bs bm hdct sn sub ab col dd k0 k1 k2 k3 k5 "ValueError.__new__")) (T:OwnTail h vbm bm) (hi:findIn K (.ref C) "__init__"=some (some (.ref fI))) (hf:typeIn K (.ref fI)=some (.type "function"))
  (hq:∀h' e,h.objs.size<=e->Heap.MadeExcOf h h' e (.ref C) rest ->
   wpAny (model prog w) A (call (.ref fI) (.ref e::rest)) (λr s'=>r = .none/\Q (.done (.ret (.ref e))) s') E ⟨h',g,d,t,os⟩) (jJ:rest.length<=sizeLine) :
  wpAny (model prog w) A (Builtin.«type.__call__» ⟨.ref C::rest,[]⟩) Q E ⟨h,g,d,t,os⟩:=by
 have F:=F.excBase_ValueError
 repeat(first|with_reducible refine xB hC ?_|with_reducible refine wpAny_madeBy_exc hC ?_|wp_step)
 refine codeAny_call_builtin_code (vE _ F.quiet) (wpAny_check_new_subT F T hC ?_);refine codeAny_exc_new_subT F T hC ?_ jJ;show wpAny _ _ _ _ _ _;have kp:∀b o,h.get? b=some o->((h.push { cls:=.type "tuple",data:=.seq rest.toArray }).push { cls:=.ref C,data:=.fields #[.ref h.objs.size,.none,.none,.none,.bool false,.none] }).get? b=some o:=λb o e=>zY _ (zY _ e);have hC₁:=kp _ _ hC;have X₁:=X.keeps kp;have AA:((h.push { cls:=.type "tuple",data:=.seq rest.toArray }).push
   { cls:=.ref C,data:=.fields #[.ref h.objs.size,.none,.none,.none,.bool false,.none] }).get? (h.objs.size+1)=some
   { cls:=.ref C,data:=.fields #[.ref h.objs.size,.none,.none,.none,.bool false,.none] }:=by heap_get
 have hcC:(Value.ref C::bm).contains (.ref C)=true:=by simp
 unfold isInstance
 repeat(first|with_reducible refine xB AA ?_|(with_reducible refine uD hC₁ ?_;rw[hcC])|wp_step)
 show wpAny _ _ (typeLookup (.ref C) _) _ _ _;refine(looks_findIn (M:=model prog w) X₁ hi).at ?_;refine xD (zZ ?_);refine(bind_fn X₁ (.ref (h.objs.size+1)) hf).at ?_;refine zZ (yN (hq _ (h.objs.size+1) (wK _) ⟨kp,vT (wK _),h.objs.size,AA,vT (zT _),?_⟩) (λr s' hr=>?_) λ_ _ x=>x)
 ·exact zY _ (Heap.get?_push_at rfl rfl)
 ·obtain⟨rfl,hQ⟩:=hr
  wp_walk
  exact hQ
theorem V9{bm:List Value}{N:Addr}{nm q:Str}{bs:List Value}{hdct:Bool}{sn:List Str}{sub:List Value}{ab:Bool}{col:Option Bool}{dd:Option Addr}{k0 k1 k2 k3 k5:Option Value}{rest:List Value}{fI:Addr}{Q:Value->Shared->Prop}(X:K.In h)
  (hC:h.get? C=some (excClassObj nm q C N bs bm hdct sn sub ab col dd k0 k1 k2 k3 k5 "ValueError.__new__")) (T:OwnTail h vbm bm) (hi:findIn K (.ref C) "__init__"=some (some (.ref fI))) (hf:typeIn K (.ref fI)=some (.type "function"))
  (hq:∀h' e,h.objs.size<=e->Heap.MadeExcOf h h' e (.ref C) rest ->
   wpAny (model prog w) (A.under (.builtin "type.__call__" ⟨.ref C::rest,[]⟩)) (call (.ref fI) (.ref e::rest)) (λr s'=>r = .none/\Q (.ref e) s') E ⟨h',g,d,t,os⟩) (jJ:rest.length<=sizeLine) :
  wpAny (model prog w) A (call (.ref C) rest) Q E ⟨h,g,d,t,os⟩:=by
 have f1:=tc_lookup;have f2:=tc_bind (.ref C);have hT:(⟨h,g,d,t,os⟩:Shared).TypeIs (.ref C) "type":=⟨_,hC,rfl⟩
 refine tU (codeAny_of_tree ?_);show wpAny _ _ (callAny (.ref C) _) _ _ _
 repeat(any_goals (first|assumption|with_reducible refine xB hC ?_|wp_step))
 refine⟨rfl,?_⟩;refine codeAny_call_builtin_at (vE _ (by decide +kernel)) entry_typeCall (wpAny_check_type_call_sub hC (mn X hC T hi hf (λh' e hz hm=>?_) jJ));exact hq h' e hz hm
end
end
section
open Builtin Builtin.ObjectAttr
structure XCls(K:Frag)(C:Addr):Prop where
 x:xIn K C=true
 ga:findIn K (.ref C) "__getattribute__"=some (some (.builtin "BaseException.__getattribute__"))
 gt:findIn K (.ref C) "__getattr__"=some none
 sa:findIn K (.ref C) "__setattr__"=some (some (.builtin "object.__setattr__"))
 mb:mroIn K C (.type "BaseException")=some true
 mo:mroIn K C (.type "object")=some true
 kp:keepIn K (.ref C)=true
 ca:findIn K (.ref C) "__class__"=some (some (.builtin "object.__class__"))
 cg:specialIn K (.builtin "object.__class__") "__get__"=some (some (.builtin "getset_descriptor.__get__"))
 ct:takesIn K (.builtin "object.__class__")=some true
theorem XCls.cls{K:Frag}{C:Addr}(c:XCls K C):∃cd,clsIn K C=some cd/\cd.hasDict=true:=by
 have q:=c.x;unfold xIn at q;split at q
 ·rename_i dd cd sl ho;split at q
  ·simp only[yY,wM,Bool.not_eq_true']at q;exact⟨cd,by unfold clsIn;rw[ho],q.1.1.2⟩
  ·cases q
 ·cases q
section
variable {prog:Program}{w:World}{A:Around}{E:Value->Shared->Prop}{K:Frag}{a C:Addr}
theorem Lf{ox:Obj}{od:Option Obj}{s:Shared}{Q:Option Value->Shared->Prop}(X:K.In s.heap)(I:InstAt s.heap a ox C od)(c:XCls K C)(hq:Q (some (.ref C)) { s with toks:=s.toks+1 }):wpAny (model prog w) A (getAttr? (.ref a) "__class__") Q E s:=by
 obtain⟨h,g,d,t,os⟩:=s;obtain⟨cd,pN,hdi⟩:=c.cls;have hf:findObj K C od "__class__"=some (.bind (.builtin "getset_descriptor.__get__") (.builtin "object.__class__")):=by simp only[findObj,pN,c.ca,c.cg,c.ct,Option.bind_some]
 have L0:=I.type (M:=model prog w);have L1:=looks_findIn (M:=model prog w) X c.ga;have L2:=looks_findIn (M:=model prog w) X c.gt;have L3:=looks_find (M:=model prog w) X I hf;have f3:=F.attr_ValueError.ga.bind (.ref a);have kP:(Value.builtin "BaseException.__getattribute__"==Value.builtin "object.__getattribute__")=false:=by decide +kernel
 have qE:(onTheHeap (Value.ref C)&&Value.builtin "BaseException.__getattribute__"==Value.builtin "object.__getattribute__")=false:=by rw[kP];rfl
 unfold getAttr? getAttrBy?;refine zZ (wpAny_mkText ?_)
 repeat(any_goals (first|assumption|with_reducible refine L0.at ?_|with_reducible refine L1.at ?_|with_reducible refine L2.at ?_|wp_step))
 refine uQ F.attr_ValueError.ga.plain F.entry_bexc_ga (@check_slot (model prog w) _ _ ⟨h,g,d,t+1,os⟩ "BaseException.__getattribute__" "BaseException" "__getattribute__" (.ref a) [.str "__class__" t] [] _ (by decide +kernel) (by decide +kernel) (L0.andThen (looks_mroIn X c.mb)) (F.args_bexc_ga _ _) ?_)
 repeat(any_goals (first|assumption|with_reducible refine L0.at ?_|with_reducible refine L3.at ?_|wp_step))
 refine class_get (s:=⟨h,g,d,t+1,os⟩) (ox:=ox) (od:=od) X I c.mo ?_
 repeat(any_goals (first|assumption|wp_step))
theorem O1{ox:Obj}{od:Option Obj}(c:XCls K C):KitX K (.ref a) (.ref C) (λh=>InstAt h a ox C od)where
 ty:=λ_ _ _ I=>I.type
 it:=λ_ _ X _=>by
  obtain⟨cdD,BU,_⟩:=c.cls;unfold clsIn at BU;split at BU
  ·rename_i c' d' cd' LZ ho;intro A' Q' E' s' k q;unfold isType loadHead;exact zZ (wpAny_loadPart (k _ _ (X _ _ ho)) (zW q))
  ·cases BU
 ne:=λh tp dd aJ n sl X htp=>by
  obtain⟨cdD,BU,_⟩:=c.cls;refine Bool.eq_false_iff.mpr λq=>?_;have e:C=tp:=Value.ref.inj (wM.mp q);subst e;unfold clsIn at BU;split at BU
  ·rename_i c' d' cd' LZ ho;have z:=(X _ _ ho).symm.trans htp;cases z
  ·cases BU
 ca:=λX I k=>Lf X I c k
end
def exO(a C:Addr)(dx:Option Addr)(n:Bool):HO:=.ext λh=>∃oe vs v1,h.get? a=some oe/\oe.cls = .ref C/\oe.dict=dx/\oe.data = .fields vs/\vs[1]?=some v1/\((n=true->v1 = .none)/\vs[2]?=some .none)
section
variable {P:Program}{w:World}{H:Hp}{h:Heap}{a C:Addr}{dx:Option Addr}{n:Bool}
theorem nr(e:∃oe vs v1,h.get? a=some oe/\oe.cls = .ref C/\oe.dict=dx/\oe.data = .fields vs/\vs[1]?=some v1/\((n=true->v1 = .none)/\vs[2]?=some .none)):ObjOk P w H h a (exO a C dx n):=by
 refine⟨e,?_,λh1 h2 ⟨oe,vs,v1,e1,r⟩ k=>⟨oe,vs,v1,k _ e1,r⟩⟩;obtain⟨oe,_,_,e1,_⟩:=e;exact⟨oe,e1⟩
theorem tm(ok:HOk P w H h)(e:H a=some (exO a C dx n)):∃oe vs v1,h.get? a=some oe/\oe.cls = .ref C/\oe.dict=dx/\oe.data = .fields vs/\vs[1]?=some v1/\((n=true->v1 = .none)/\vs[2]?=some .none):=(ok a _ e).1
end
section
variable {X:Cx}{pins:List (Addr×Obj)}{σ:St}{H:Hp}{s:Shared}{a C:Addr}{n:Bool}
theorem Inv.exDict{dx:Addr}{fs:List (Str×V)}{mA:Str->Option Value}{h':Heap}{t':Nat}(I:Inv X pins σ H s)(ea:H a=some (exO a C none n))(hz:s.heap.objs.size<=dx)(k:∀b o,b≠a->s.heap.get? b=some o->h'.get? b=some o)
  (ns:h'.Ns1 dx mA) (r:∀f,RelO (fs.lookup f) (mA f)) (na:∃oe vs v1,h'.get? a=some oe/\oe.cls = .ref C/\oe.dict=some dx/\oe.data = .fields vs/\vs[1]?=some v1/\((n=true->v1 = .none)/\vs[2]?=some .none)) :
  Inv X pins σ (upd (upd H dx (.xd fs)) a (exO a C (some dx) n)) { s with heap:=h',toks:=t' }:=by
 have nN:H dx=none:=I.hok.fresh hz;have ne:dx≠a:=λz=>by rw[z,ea]at nN;cases nN
 have at_:∀b o,H b=some o->b≠a->(upd (upd H dx (.xd fs)) a (exO a C (some dx) n)) b=some o:=λb o e z=>by rw[zj z,zj (λq=>by rw[q,nN]at e;cases e)];exact e
 refine I.un ⟨λb o e q _ _=>k b o (λz=>by rw[z,ea]at q;cases q) e,λb o e q _ _=>⟨o.slots,k b o (λz=>by rw[z,ea]at q;cases q) e⟩,λb o e q _=>?_,λb o e _=>?_,λb xs e=>at_ b _ e λz=>?_,λb o u e=>at_ b _ e λz=>?_,λb ps e=>⟨#[],?_⟩⟩ λb o e=>?_
 ·rw[zj (λz=>by rw[z,ea]at q;cases q),zj (zC (zA (zU e) hz))];exact q
 ·by_cases z:b=a
  ·obtain⟨oe,_,_,e1,_⟩:=na;exact⟨oe,z▸e1⟩
  ·exact⟨o,k b o z e⟩
 ·rw[z,ea]at e;cases e
 ·rw[z,ea]at e;cases e
 ·rw[at_ b _ e λz=>by rw[z,ea]at e;cases e];simp
 ·by_cases z:b=a
  ·subst z;rw[zu]at e;cases e;exact nr na
  ·rw[zj z]at e
   by_cases q:b=dx
   ·subst q;rw[zu]at e;cases e;exact⟨mA,ns,r⟩
   ·rw[zj q]at e;refine(I.hok b o e).stay (λc u hc g=>k c u ?_ g) (λc g=>at_ c _ g λy=>?_) λc xs g=>at_ c _ g λy=>?_
    ·rcases hc with y|y
     ·rw[y];exact z
     ·intro y';rw[y',ea]at y;cases y
    ·rw[y,ea]at g;cases g
    ·rw[y,ea]at g;cases g
end
end
section
theorem Kd{K:Frag}{C:Addr}{h:Heap}(X:K.In h)(c:XCls K C):∃bm N nm q bs hdct sn sub ab col dd k0 k1 k2 k3 k5,h.get? C=some (excClassObj nm q C N bs bm hdct sn sub ab col dd k0 k1 k2 k3 k5 "ValueError.__new__")/\OwnTail h vbm bm:=by
 obtain⟨cd,x⟩:=Ge X c.x;obtain⟨bm,N,nm,q,bs,hdct,sn,sub,ab,col,dd,k0,k1,k2,k3,k5,hC,T,_⟩:=x.obj;exact⟨bm,N,nm,q,bs,hdct,sn,sub,ab,col,dd,k0,k1,k2,k3,k5,hC,T⟩
def Kv(K:Frag)(ta tv:TE)(f:Str):TS:=λD σ H=>tv σ H λy H1=>ta σ H1 λx H2=>∃a C n,x = .ref a/\H2 a=some (exO a C none n)/\XCls K C/\takerIn K C f=some none /\
 ∀dx,H2 dx=none->D.nx σ (upd (upd H2 dx (.xd [(f,y)])) a (exO a C (some dx) n))
def Fw(K:Frag)(ta:TE)(f:Str):TE:=fun σ H Q=>ta σ H λx H1=>∃a C dx n fs v,x = .ref a/\H1 a=some (exO a C (some dx) n)/\H1 dx=some (.xd fs)/\XCls K C/\NoAttr K C f/\fs.lookup f=some v/\Q v H1
section
variable {X:Cx}{o e value:Expr}{f:Str}{pos jW:Pos}{ta tv:TE}
theorem Mt(ha:PE X o ta)(hv:PE X value tv)(hs:swapsWith value (some (.Attribute o f jW)) pos.line X.env=pure false):PS X (.Assign [.Attribute o f jW] value pos) (Kv X.K ta tv f):=by
 intro pins s σ H D I h;refine plainObj_wpAny_Assign_Attribute (thn (hv pins s σ H _ I h) λu s1 ⟨y,H1,I1,ry,q⟩=>thn (ha pins s1 σ H1 _ I1 q) λov s2 ⟨x,H2,I2,rx,a,C,n,ex,ea,c,ht,q2⟩=>?_) hs;subst ex;obtain rfl:ov=Value.ref a:=rx;obtain⟨cd,x⟩:=Ge I2.kIn c.x;obtain⟨oe,vs,v1,e1,e2,e3,e4,e5,e6⟩:=tm I2.hok ea;refine Fi I2.kIn x c.sa ht e1 e2 e3 e4 λh' dx tk hz hn e' k=>?_;have hr:∀g,RelO (([(f,y)]:List (Str×V)).lookup g) (if g=f then some u else none):=λg=>by
  by_cases z:g=f
  ·rw[zG z,z,List.lookup_cons_self];exact ry
  ·rw[zM z,uN,xR.mpr z];exact True.intro
 refine⟨σ,_,Inv.exDict (n:=n) (t':=tk) I2 ea hz k hn hr ⟨_,vs,v1,e',e2,rfl,e4,e5,e6⟩,q2 dx (I2.hok.fresh hz)⟩
end
structure DefI(K:Frag)(C:Addr)(qual:Str)(st:Stmt)(ps:List Str):Prop where
 ex:∃(f:Addr)(fd:FuncData),Fun K "__init__" qual st f fd/\(∀us:List Value,us.length=ps.length->bindArgs fd ⟨us,[]⟩=pure (ps.zip us))/\findIn K (.ref C) "__init__"=some (some (.ref f))/\typeIn K (.ref f)=some (.type "function")/\XCls K C
structure ln(P:Program)(w:World)(K:Frag)(mg:Str->Option Value)(base:Heap)(k:Nat)(C:Addr)(ps:List Str)(sp:Sp):Prop where
 ex:∃(f:Addr)(fd:FuncData),vc P w K mg base CX0 k f fd ps sp/\Binds K fd ps []/\findIn K (.ref C) "__init__"=some (some (.ref f))/\typeIn K (.ref f)=some (.type "function")/\XCls K C
theorem DefI.callee{P:Program}{w:World}{K:Frag}{mg:Str->Option Value}{base:Heap}{C:Addr}{qual:Str}{st:Stmt}{N ps:List Str}{k:Nat}{sp:Sp}(F:DefI K C qual st ps)(S:zm N ps (zy st))(len:∀vs H Q E,sp vs H Q E->vs.length=ps.length)
  (bF:∀(f:Addr)(cdv:Value)(A:Around)(outer:List Env)(s:Shared)(H:Hp)(vs:List V)(Q:VK)(E:XK),Room k (A.deeper (envOfC qual (zy st) s.heap.objs.size f cdv))->sp vs H Q E ->
   ∃σ t,start N vs=σ/\PSs (ww CX0 P w K mg base N qual (zy st) f cdv A outer s H E).nox (zr st) t/\t { nx:=λ_ H'=>Q .non H',rt:=Q } σ H):ln P w K mg base (k+1) C ps sp:=by
 obtain⟨f,fd,F,b,hi,hf,hc⟩:=F.ex;refine⟨f,fd,F.ok S len λcdv A outer s H vs Q E hr h=>?_,.all b,hi,hf,hc⟩;obtain⟨σ,t,e,ht,q⟩:=bF f cdv A outer s H vs Q E hr h;exact⟨t,ht,by rw[e];exact q⟩
theorem Lg{K:Frag}{C:Addr}{qual:Str}{st:Stmt}{ps:List Str}{f:Addr}{oc:Value}{od an:Option Addr}{osl:Array (Option Value)}{kV doc pm cdv ct:Value}
  (a:findIn K (.ref C) "__init__"=some (some (.ref f))) (l:K.lookup f=some ⟨oc,od,.func (W.fnOf "__init__" qual (zp st) (zr st) (zy st) .none kV doc pm an cdv ct),osl⟩)
  (c:codeIn K cdv qual=true) (k:keepIn K (.ref f)=true) (n:typeIn K (.ref f)=some (.type "function")) (x:XCls K C)
  (h:∀(kV doc pm:Value)(an:Option Addr)(cdv ct:Value)(us:List Value),us.length=ps.length->bindArgs (W.fnOf "__init__" qual (zp st) (zr st) (zy st) .none kV doc pm an cdv ct) ⟨us,[]⟩=pure (ps.zip us)):DefI K C qual st ps :=
 ⟨f,_,Z3 l c k,λus hl=>h kV doc pm an cdv ct us hl,a,n,x⟩
def K5(C:Addr)(sp:Sp)(t:TA):TE:=fun σ H Q=>t σ H λvs H1=>vs.length<=sizeLine/\∀a,H1 a=none->sp (.ref a::vs) (upd H1 a (exO a C none true)) (λv H2=>v = .non/\Q (.ref a) H2) E0
theorem Ht{X:Cx}{C:Addr}{x:Str}{e:Expr}{es:List Expr}{t:TA}{k k':Nat}{ps:List Str}{sp:Sp}{p pos:Pos}(F:ln X.prog X.w X.K X.mg X.base k C ps sp)(hr:Room k' X.A)(hk:k+1<=k')(hm:X.mg x=some (.ref C))(ha:PA X (e::es) t)(hg:Gl X x:=by rfl)
  (kH:(x==("__debug__":Str))=false:=by decide) (he:starEach (e::es) X.env=(false,eval e X.env)::starEach es X.env:=by rfl) (dE:(backTo pos (starEach es X.env)).any (·.1)=false:=by rfl) :
  PE X (.Call (.Name x p) (e::es) [] pos) (K5 C sp t):=by
 intro pins s σ H Q I h;obtain⟨fI,fd,F,b,hi,hf,c⟩:=F.ex;refine xA (vt I hg hm ?_ kH);refine vZ (h₀:=X.base) I.ok.mod.kin c.kp (thn (ha pos pins s σ H _ I h) λus s1 ⟨vs,H1,I1,r,hz,q⟩=>⟨I1.kIn,?_⟩) he dE;obtain⟨bm,N,nm,qq,bs,hdct,sn,sub,ab,col,dd,k0,k1,k2,k3,k5,hC,T⟩:=Kd I1.kIn c;obtain⟨hh,g,d,tt,os⟩:=s1;refine V9 I1.kIn hC T hi hf (λh' a UD mE=>?_) (show us.length<=sizeLine by rw[<-r.length];exact hz);obtain⟨tp,ht,_,_⟩:=mE.there;have I2:Inv X pins σ (upd H1 a (exO a C none true)) ⟨h',g,d,tt,os⟩:=I1.laid (a:=a) (t':=tt) mE.keeps UD (nr ⟨_,_,.none,ht,rfl,rfl,rfl,rfl,λ_=>rfl,rfl⟩);have hq:=q a (I1.hok.fresh UD);have r2:Vals (V.ref a::vs) (Value.ref a::us):=.cons rfl r;have hl:((Value.ref a::us)++[]).length=ps.length:=by
  rw[List.append_nil];exact r2.length.symm.trans (F.len _ _ _ _ hq)
 have hb:=b ⟨h',g,d,tt,os⟩ (Value.ref a::us) I2.kIn hl;rw[List.append_nil]at hb;refine tU (vP (F.run _ X.stack _ _ ⟨Value.ref a::us,[]⟩ (Value.ref a::us) _ _ E0 ((hr.mono hk).make C us []) (I2.env0.make C us []) hb r2 hq) λr s' BM=>?_);cases r with
 |error e=>exact False.elim BM
 |ok fl =>
  cases fl with
  |ret u =>
   obtain⟨v,H',I3,rv,ev,q3⟩:=I2.after BM;subst ev;exact⟨rv,⟨V.ref a,H',I3,rfl,q3⟩⟩
  |next=>exact False.elim BM
  |brk=>exact False.elim BM
  |cont=>exact False.elim BM
end
section
def F9:V->Option Value
 | .ref a=>some (.ref a)
 | .ty n=>some (.type n)
 |_=>none
theorem Ru{c:V}{cv u:Value}(h:F9 c=some cv)(r:RelV c u):u=cv:=by
 cases c<;>first|(cases h;exact r)|cases h
section
variable {X:Cx}
theorem wm{x:Str}{pos:Pos}{C:Addr}(hm:X.mg x=some (.ref C))(hg:Gl X x:=by rfl)(kH:(x==("__debug__":Str))=false:=by decide):PE X (.Name x pos) (tC (.ref C)) :=
 λpins s σ H Q I h=>vt I hg hm ⟨.ref C,H,I,rfl,h⟩ kH
end
section
variable {M:Model}{A:Around}{E:Value->Shared->Prop}{env:Env}{K:Frag}
theorem M0{s:Shared}{x:Sem Value}{Q:Flow->Shared->Prop}(hh:A.handled=none)
  (h:wpAny M A x (λv s₁=>∃a C oe vs,v = .ref a/\K.In s₁.heap/\XCls K C/\s₁.heap.get? a=some oe/\oe.cls = .ref C/\oe.data = .fields vs/\vs[1]?=some .none/\E (.ref a) s₁) E s) :
  wpAny M A (raiseStmt env (some x) none) Q E s:=by
 unfold raiseStmt;refine zZ (yN h (λv s₁ h₁=>?_) λ_ _ x=>x);obtain⟨a,C,oe,vs,rfl,KX,c,he,hc,hd,h1,hE⟩:=h₁;obtain⟨bm,N,nm,qq,bs,hdct,sn,sub,ab,col,dd,k0,k1,k2,k3,k5,hC,T⟩:=Kd KX c;have hcB:(Value.ref C::bm).contains (.type "BaseException")=true:=by rw[List.contains_cons,T.hasType (b:=true) (by decide),Bool.or_true]
 obtain⟨oc,od,dt,sl⟩:=oe;dsimp only at hc hd;subst hc hd;obtain⟨hp,g,d,tk,os⟩:=s₁
 repeat(first|with_reducible refine xB he ?_|with_reducible refine xB hC ?_|(with_reducible refine uD hC ?_;rw[hcB])|with_reducible refine yF he rfl h1 ?_|wp_step)
 exact wpAny_raiseNew_none hh hE
end
def Zv(X:Cx)(E:XK):Prop:=∀(pins:List (Addr×Obj))(σ:St)(H:Hp)(s:Shared)(a C:Addr)(dx:Option Addr),Inv X pins σ H s->H a=some (exO a C dx true)->E (.ref a) dx (upd H a (exO a C dx false))->X.xe (.ref a) s
def X1(K:Frag)(E:XK)(te:TE):TS:=λD σ H=>te σ H λx H1=>∃a C dx,x = .ref a/\H1 a=some (exO a C dx true)/\XCls K C/\E (.ref a) dx (upd H1 a (exO a C dx false))
theorem Qn{X:Cx}{e:Expr}{te:TE}{E:XK}{pos:Pos}(he:PE X e te)(hx:Zv X E)(hh:X.A.handled=none):PS X (.Raise (some e) none pos) (X1 X.K E te):=by
 intro pins s σ H D I h;rw[arm_exec_Raise];refine zZ (wpAny_standAt (M0 (K:=X.K) hh (zZ (thn (he pins s σ H _ I h) λv s1 ⟨x,H1,I1,rx,a,C,dx,ex,ea,c,q⟩=>zZ (wpAny_standAt (zW ?_))))));subst ex;obtain rfl:v=Value.ref a:=rx;obtain⟨oe,vs,v1,e1,e2,e3,e4,e5,e6⟩:=tm I1.hok ea;obtain rfl:=e6.1 rfl;exact⟨a,C,oe,vs,rfl,I1.kIn,c,e1,e2,e4,e5,hx pins σ H1 s1 a C dx I1 ea q⟩
end
section
def CXr(P:Program)(w:World):CXT:=λouter H s E e s'=>∃a C dx H' T,e = .ref a/\s'.os=s.os/\AllBare s'.gens/\Un (frs outer) [] H H' s.heap s'.heap/\HOk P w H' s'.heap /\
 H' a=some (exO a C dx false)/\H' T=none/\s.heap.objs.size<=T/\Fly s'.heap a C dx (some (T,.none))/\E e dx H'
theorem X7{H:Hp}{a:Addr}{o:HO}(e:H a=some o):upd H a o=H:=by
 funext b
 by_cases z:b=a
 ·rw[z,zu,e]
 ·rw[zj z]
section
variable {P:Program}{w:World}{K:Frag}{mg:Str->Option Value}{base:Heap}{N:List Str}{qual:Str}{scope:Scope}{f:Addr}{cd:Value}{A:Around}{outer:List Env}{s₀:Shared}{H₀:Hp}{E:XK}
theorem og{X:Cx}{pins:List (Addr×Obj)}{σ:St}{H:Hp}{s:Shared}{a C T:Addr}{dx:Option Addr}{old:Option (Addr×Value)}{n:Bool}{h1 h2:Heap}{fl:Option (Addr×Value)}(I:Inv X pins σ H s)(ea:H a=some (exO a C dx n))(ho:∀T v,old=some (T,v)->H T=none)
  (N:N4 (frs X.stack) a old s.heap h1) (hz:s.heap.objs.size<=T) (k2:∀b o,b≠T->h1.get? b=some o->h2.get? b=some o) (F2:Fly h2 a C dx fl):HOk X.prog X.w (upd H a (exO a C dx false)) h2:=by
 intro b o e
 by_cases z:b=a
 ·subst z;rw[zu]at e;cases e;obtain⟨oe,vs,e1,e2,e3,e4,h2,r⟩:=F2;cases fl with
  |none=>exact nr ⟨oe,vs,_,e1,e2,e3,e4,r,(λz=>by cases z),h2⟩
  |some p=>exact nr ⟨oe,vs,_,e1,e2,e3,e4,r.1,(λz=>by cases z),h2⟩
 ·rw[zj z]at e;refine(I.hok b o e).stay (λc u hc g=>?_) (λc g=>?_) λc xs g=>?_
  ·have ht:H c≠none:=by
    rcases hc with y|y
    ·rw[y,e];exact λq=>by cases q
    ·rw[y];exact λq=>by cases q
   refine k2 c u (zC (zA (zU g) hz)) (N.keep c u g (λq=>ht (I.stkFree c q)) (λq=>?_) λT' v' q y=>ht (by rw[y];exact ho T' v' q));rcases hc with y|y
   ·exact z (y.symm.trans q)
   ·rw[q,ea]at y;cases y
  ·rw[zj λy=>by rw[y,ea]at g;cases g];exact g
  ·rw[zj λy=>by rw[y,ea]at g;cases g];exact g
theorem Yw{pins:List (Addr×Obj)}{σ:St}{H:Hp}{s:Shared}{a C:Addr}{dx:Option Addr}{n:Bool}{old:Option (Addr×Value)}(I:Inv (ww (CXr P w) P w K mg base N qual scope f cd A outer s₀ H₀ E) pins σ H s)(ea:H a=some (exO a C dx n))(F:Fly s.heap a C dx old)
  (ho:∀T v,old=some (T,v)->v = .none/\H T=none/\s₀.heap.objs.size<=T) (hE:E (.ref a) dx (upd H a (exO a C dx false))):(ww (CXr P w) P w K mg base N qual scope f cd A outer s₀ H₀ E).xe (.ref a) s:=by
 have hL:s₀.heap.objs.size<=s₀.heap.objs.size:=zT _;show wpAny (model P w) (A.deeper (envOfC qual scope s₀.heap.objs.size f cd)) (leaving (envOfC qual scope s₀.heap.objs.size f cd) (.ref a)) _ _ s;unfold leaving;refine zZ (Xb (base:=base) (L:=s₀.heap.objs.size) I.ok.frames I.stack rfl F (λT v q=>(ho T v q).1) λh1 T hz N F1=>o4 (s:={ s with heap:=h1 }) F1 λh2 k2 F2=>?_);have sz:=I.sz;have HZ:∀b o,s₀.heap.get? b=some o->b≠T:=λb o e=>zC (zA (zU e) (yQ sz hz));have mem:∀b,b∈frs (envOfC qual scope s₀.heap.objs.size f cd::outer)->b=s₀.heap.objs.size\/b∈frs outer:=λb q=>by
  unfold frs at q;rw[yB]at q;exact zL.mp q
 have na:∀b,H b=none->b≠a:=λb q z=>by rw[z,ea]at q;cases q
 refine⟨a,C,dx,upd H a (exO a C dx false),T,rfl,I.os,I.bare,⟨λb o e q hb hx=>?_,λb o e q hb hx=>?_,λb o e q hx=>?_,λb o e hx=>?_,λb xs e=>?_,λb o u e=>?_,λb ps e=>?_⟩,og I ea (λT v q=>(ho T v q).2.1) N hz k2 F2,zu,?_,yQ sz hz,F2,hE⟩
 ·have e1:=I.base.keep b o e q hb hx;have e2:=I.base.free b o e q hx;refine k2 b o (HZ b o e) (N.keep b o e1 (λz=>?_) (na b e2) λT' v' z y=>?_)
  ·rcases mem b z with y|y
   ·exact absurd (zU e) (by rw[y];exact wY _)
   ·exact hb y
  ·exact absurd (zU e) (by rw[y];exact tT.mpr (ho T' v' z).2.2)
 ·obtain⟨sl,e1⟩:=I.base.slot b o e q hb hx;obtain⟨CJ,e2⟩:=N.slot b _ e1 (by unfold frs;rw[yB];exact zO _ hb);exact⟨CJ,k2 b _ (HZ b o e) e2⟩
 ·have e2:=I.base.free b o e q hx;rw[zj (na b e2)];exact e2
 ·obtain⟨o1,e1⟩:=I.base.there b o e hx;obtain⟨o2,e2⟩:=N.there b o1 e1;exact⟨o2,k2 b _ (HZ b o e) e2⟩
 ·have e1:=I.base.tups b xs e;rw[zj λz=>by rw[z,ea]at e1;cases e1];exact e1
 ·have e1:=I.base.frzs b o u e;rw[zj λz=>by rw[z,ea]at e1;cases e1];exact e1
 ·obtain⟨m,e1⟩:=I.base.tbls b ps e;exact⟨m,by rw[zj λz=>by rw[z,ea]at e1;cases e1];exact e1⟩
 ·have e2:=I.hok.fresh hz;rw[zj (na T e2)];exact e2
theorem xm:Zv (ww (CXr P w) P w K mg base N qual scope f cd A outer s₀ H₀ E) E:=by
 intro pins σ H s a C dx I ea hE;obtain⟨oe,vs,v1,e1,e2,e3,e4,e5,e6⟩:=tm I.hok ea;obtain rfl:=e6.1 rfl;exact Yw (old:=none) I ea ⟨oe,vs,e1,e2,e3,e4,e6.2,e5⟩ (λ_ _ z=>nomatch z) hE
theorem yw:wj (CXr P w) (ww (CXr P w) P w K mg base N qual scope f cd A outer s₀ H₀ E) E:=by
 intro pins σ H s e s' I h;obtain⟨a,C,dx,H',T,rfl,os,bare,un,hok,ea,hT,hz,F,hE⟩:=h;have I':=Inv.call' (ch:=[]) I os un hok bare (λb z=>absurd z (by simp));exact Yw (old:=some (T,.none)) I' ea F (λT' v' z=>by cases z;exact⟨rfl,hT,yQ I.sz hz⟩) (by rw[X7 ea];exact hE)
theorem okX{x:Str}{st:Stmt}{fd:FuncData}{ps:List Str}{k:Nat}{sp:Sp}(F:Fun K x qual st f fd)(S:zm N ps (zy st))(len:∀vs H Q E,sp vs H Q E->vs.length=ps.length)
  (bF:∀(cdv:Value)(A:Around)(outer:List Env)(s:Shared)(H:Hp)(vs:List V)(Q:VK)(E:XK),Room k (A.deeper (envOfC qual (zy st) s.heap.objs.size f cdv))->sp vs H Q E ->
   ∃t,PSs (ww (CXr P w) P w K mg base N qual (zy st) f cdv A outer s H E) (zr st) t/\t { nx:=λ_ H'=>Q .non H',rt:=Q } (start N vs) H):vc P w K mg base (CXr P w) (k+1) f fd ps sp:=by
 obtain⟨oc,od,kV,doc,pm,an,cdv,ct,osl,rfl,lk,pN⟩:=F.ex;exact Om lk pN S len λA outer s H vs Q E hr oK=>bF cdv A outer s H vs Q E hr oK
end
theorem PS.nox{X:Cx}{st:Stmt}{t:TS}(h:PS X.nox st t):PS X st t:=λpins s σ H D I hw =>
 yN (h pins s σ H D (I.wish _) hw) (λ_ _ q=>q.unwish) λ_ _ z=>False.elim z
end
section
section
variable {X:Cx}{pins:List (Addr×Obj)}{σ:St}{H:Hp}{s:Shared}
theorem Ux{M:Model}{A:Around}{E:Value->Shared->Prop}{i:Nat}{x:Str}{pos:Pos}{Q:Unit->Shared->Prop}(I:Inv X pins σ H s)(hN:X.N.Nodup)(hi:X.N[i]?=some x)(hk:X.env.scope.names.lookup x=some .local)
  (h:∀s',Inv X pins (σ.set i none) H s'->Q () s'):wpAny M A (do bindName X.env x .none;unbindBehindTheSuite X.env x pos) Q E s:=by
 obtain⟨m,hn,hl⟩:=id I.loc;have HQ:(X.env.scope.kind == .class||(X.env.scope.kind == .module&&X.env.locals != X.env.globals))=false:=by rw[I.ok.kind];rfl
 have hiσ:i<σ.length:=by rw[I.len];exact(zR.mp hi).1
 have cne:=I.cne;refine wpAny_nameGoes_keeps hk hn HQ λh' v CP hs=>?_;obtain⟨oL,_,_,hoL,_⟩:=id hn;refine h _ ⟨I.ok,I.os,I.bare,⟨λb o e n hb hx=>?_,λb o e n hb hx=>?_,I.base.free,λb o e hx=>?_,I.base.tups,I.base.frzs,I.base.tbls⟩,⟨_,CP,λj y v' e1 e2 e3=>?_⟩,λy c e=>?_,I.free,I.freeC,λp hp=>?_,λb ob e=>?_,by simpa using I.len⟩
 ·exact(hs.2 b (zC (zA (zU e) I.ok.above))).trans (I.base.keep b o e n hb hx)
 ·obtain⟨sl,e1⟩:=I.base.slot b o e n hb hx;exact⟨sl,(hs.2 b (zC (zA (zU e) I.ok.above))).trans e1⟩
 ·obtain⟨o',e1⟩:=I.base.there b o e hx;exact⟨o',(hs.2 b (zC (zA (zU e) I.ok.above))).trans e1⟩
 ·by_cases hj:j=i
  ·subst hj;rw[tR hiσ]at e2;cases e2
  ·rw[List.getElem?_set_ne (wU hj)]at e2;obtain⟨u',r',q⟩:=hl j y v' e1 e2 e3;refine⟨u',r',?_⟩;rcases q with⟨k,e⟩|⟨k,c,e,z⟩
   ·refine .inl ⟨k,?_⟩;have:y≠x:=λe=>hj (ke hN e1 (e▸hi));simp[this,e]
   ·exact .inr ⟨k,c,e,z.sameBut hs (cne y c e)⟩
 ·obtain⟨w',z⟩:=I.cell y c e;exact⟨w',z.sameBut hs (cne y c e)⟩
 ·obtain⟨e,n,ne,nf,d⟩:=I.pin p hp;exact⟨(hs.2 p.1 ne).trans e,n,ne,nf,d⟩
 ·refine(I.hok b ob e).stay (λc w' hc q=>(hs.2 c ?_).trans q) (λ_ q=>q) λ_ _ q=>q;rintro rfl;rcases hc with rfl|hc
  ·rw[I.free]at e;cases e
  ·rw[I.free]at hc;cases hc
abbrev T7(X:Cx)(a:Addr):Cx:={ X with A:=X.A.mark (some (.ref a)),calm:=false,xe:=λ_ _=>False }
theorem Uy(I:Inv X pins σ H s)(a:Addr):Inv (T7 X a) pins σ H s :=
 ⟨⟨I.ok.mod,I.ok.kind,I.ok.glob,I.ok.blt,I.ok.above,I.ok.inj,I.ok.has,I.ok.cab,(λz=>absurd (show false=true from z) zH),I.ok.frames,I.ok.stk,I.ok.exf,I.ok.bs,I.ok.bsz,I.ok.noex,I.ok.exfs,I.ok.funs,I.ok.frf⟩,I.os,I.bare,I.base,I.loc,I.cell,I.free,I.freeC,I.pin,I.hok,I.len⟩
theorem bv{a:Addr}(ok:X.Ok)(I:Inv (T7 X a) pins σ H s):Inv X pins σ H s:=⟨ok,I.os,I.bare,I.base,I.loc,I.cell,I.free,I.freeC,I.pin,I.hok,I.len⟩
end
section
variable {prog:Program}{w:World}{A:Around}{E:Value->Shared->Prop}{s:Shared}{env:Env}{K:Frag}
theorem Gw{M:Model}{a C J:Addr}{oe:Obj}{Q:Bool->Shared->Prop}(X:K.In s.heap)(c:XCls K C)(j:XCls K J)(hm:mroIn K C (.ref J)=some true)(he:s.heap.get? a=some oe)(hc:oe.cls = .ref C)(hq:Q true s):wpAny M A (excMatches (.ref a) (.ref J)) Q E s:=by
 obtain⟨bm,N,nm,qq,bs,hdct,sn,sub,ab,col,dd,k0,k1,k2,k3,k5,hJ,T⟩:=Kd X j;have hcB:(Value.ref J::bm).contains (.type "BaseException")=true:=by rw[List.contains_cons,T.hasType (b:=true) (by decide),Bool.or_true]
 have L:Looks M s.heap (isSubtype (.ref C) (.ref J)) true:=looks_mroIn X hm;have f:=tc_notTuple;obtain⟨hp,g,d,tk,os⟩:=s;unfold excMatches
 repeat(first|(with_reducible refine xB he ?_;rw[hc])|with_reducible refine xB hJ ?_|(with_reducible refine uD hJ ?_;rw[hcB])|with_reducible refine L.at ?_|wp_step)
 exact hq
theorem Wk{e:Addr}{t:Expr}{n:Str}{b₀:Stmt}{jQ:List Stmt}{pos:Pos}{rest:List ExceptHandler}{Q:Flow->Shared->Prop}
  (h:wpAny (model prog w) (A.mark (some (.ref e))) (eval t env) (λc s₁=>wpAny (model prog w) (A.mark (some (.ref e))) (excMatches (.ref e) c) (λb s₂=>b=true /\
   wpAny (model prog w) (A.mark (some (.ref e))) (setFlight (.ref e) none) (λ_ s₃=>wpAny (model prog w) (A.mark (some (.ref e))) (storeName env n (.ref e)) (λ_ s₄ =>
    wpAny (model prog w) (A.mark (some (.ref e))) (execs (b₀ :: jQ) env) (λf s₅=>wpAny (model prog w) A (do bindName env n .none;unbindBehindTheSuite env n pos) (λ_ s₆=>Q f s₆) (λ_ _=>False) s₅)
     (λ_ _=>False) s₄) (λ_ _=>False) s₃) (λ_ _=>False) s₂) (λ_ _=>False) s₁) (λ_ _=>False) s) :
  wpAny (model prog w) A (handleBy (.ref e) env (.ExceptHandler (some t) (some n) (b₀ :: jQ) pos::rest)) Q E s:=by
 refine wpAny_handleBy_cons (codeAny_handlers_test (yN h (λc s₁ h₁=>yN h₁ (λb s₂ h₂=>?_) λ_ _ z=>z.elim) λ_ _ z=>z.elim)) (by intro q;cases q);obtain⟨rfl,h₂⟩:=h₂;refine codeAny_handlers_suite_as (yN h₂ (λ_ s₃ h₃=>yN h₃ (λ_ s₄ h₄=>yN h₄ (λf s₅ h₅=>?_) λ_ _ z=>z.elim) λ_ _ z=>z.elim) λ_ _ z=>z.elim);exact yN h₅ (λ_ _ z=>z) λ_ _ z=>z.elim
end
def F5(K:Frag)(J:Addr)(sp:Sp)(ta:TA)(i:Nat)(ts:Addr->TS):TS:=λD σ H=>ta σ H λvs H1=>sp vs H1 (λ_ H2=>D.nx σ H2) λe dx H'=>∃a C,e = .ref a/\H' a=some (exO a C dx false)/\XCls K C/\mroIn K C (.ref J)=some true /\
 ts a { nx:=fun σ' CT=>D.nx (σ'.set i none) CT,rt:=D.rt } (σ.set i (some (.ref a))) H'
structure yu(P:Program)(w:World)(K:Frag)(mg:Str->Option Value)(base:Heap)(k:Nat)(x:Str)(ps:List Str)(sp:Sp):Prop where
 ex:∃(f:Addr)(fd:FuncData),vc P w K mg base (CXr P w) k f fd ps sp/\Binds K fd ps []/\mg x=some (.ref f)/\keepIn K (.ref f)=true
end
section
theorem qg:bootBuiltins "ValueError"=some (.type "ValueError"):=by decide +kernel
section
variable {X:Cx}
end
section
variable {P:Program}{w:World}{K:W.Frag}{mg:Str->Option Value}{base:Heap}
theorem Def.calleeX{x:Str}{st:Stmt}{N ps:List Str}{k:Nat}{sp:Sp}(F:Def K mg x st ps)(S:zm N ps (zy st))(len:∀vs H Q E,sp vs H Q E->vs.length=ps.length)
  (bF:∀(f:Addr)(cdv:Value)(A:Around)(outer:List Env)(s:Shared)(H:Hp)(vs:List V)(Q:VK)(E:XK),Room k (A.deeper (envOfC x (zy st) s.heap.objs.size f cdv))->sp vs H Q E ->
   ∃σ t,start N vs=σ/\PSs (ww (CXr P w) P w K mg base N x (zy st) f cdv A outer s H E) (zr st) t/\t { nx:=λ_ H'=>Q .non H',rt:=Q } σ H):yu P w K mg base (k+1) x ps sp:=by
 obtain⟨f,fd,F,b,hm⟩:=F.ex;refine⟨f,fd,okX F S len λcdv A outer s H vs Q E hr h=>?_,.all b,hm,F.kp⟩;obtain⟨σ,t,e,ht,q⟩:=bF f cdv A outer s H vs Q E hr h;exact⟨t,ht,by rw[e];exact q⟩
theorem vw{X:Cx}{k k':Nat}{x:Str}{ps:List Str}{sp:Sp}{t:TA}{e:Expr}{es:List Expr}{p pos:Pos}{E:XK}(C:yu X.prog X.w X.K X.mg X.base k x ps sp)(hx:wj (CXr X.prog X.w) X E)(hr:Room k' X.A)(hk:k<=k')(ha:PA X (e::es) t)(hg:Gl X x:=by rfl)
  (kH:(x==("__debug__":Str))=false:=by decide) (he:starEach (e::es) X.env=(false,eval e X.env)::starEach es X.env:=by rfl) (dE:(backTo pos (starEach es X.env)).any (·.1)=false:=by rfl) :
  PE X (.Call (.Name x p) (e::es) [] pos) (dn sp [] E t):=by
 obtain⟨f,fd,F,b,hm,kp⟩:=C.ex;exact Va F (hr.mono hk) hg hm kp b .nil hx ha kH he dE
end
end
section
theorem yr{X:Cx}{e:Expr}{te:TE}{E:XK}{pos:Pos}(he:PE X e te)(hx:Zv X E)(hc:X.calm=true):PS X (.Raise (some e) none pos) (X1 X.K E te) :=
 λpins s σ H D I h=>Qn he hx (I.ok.hd hc) pins s σ H D I h
theorem pj{K:Frag}{C:Addr}(x:xIn K C=true)(ga:findIn K (.ref C) "__getattribute__"=some (some (.builtin "BaseException.__getattribute__")))(gt:findIn K (.ref C) "__getattr__"=some none)
  (sa:findIn K (.ref C) "__setattr__"=some (some (.builtin "object.__setattr__"))) (mb:mroIn K C (.type "BaseException")=some true) (mo:mroIn K C (.type "object")=some true) (kp:keepIn K (.ref C)=true)
  (ca:findIn K (.ref C) "__class__"=some (some (.builtin "object.__class__"))) (cg:specialIn K (.builtin "object.__class__") "__get__"=some (some (.builtin "getset_descriptor.__get__"))) (ct:takesIn K (.builtin "object.__class__")=some true):XCls K C:=⟨x,ga,gt,sa,mb,mo,kp,ca,cg,ct⟩
end
section
structure DefN(K:Frag)(C:Addr)(qual:Str)(st:Stmt)(ps:List Str)(ds:List Value):Prop where
 ex:∃(f:Addr)(oc:Value)(od:Option Addr)(dV kV doc pm:Value)(an:Option Addr)(cdv ct:Value)(osl:Array (Option Value)),K.lookup f=some ⟨oc,od,.func (fnOf "__init__" qual (zp st) (zr st) (zy st) dV kV doc pm an cdv ct),osl⟩/\codeIn K cdv qual=true/\Mk K C f /\
  Binds K (fnOf "__init__" qual (zp st) (zr st) (zy st) dV kV doc pm an cdv ct) ps []/\Binds K (fnOf "__init__" qual (zp st) (zr st) (zy st) dV kV doc pm an cdv ct) ps ds
structure lq(P:Program)(w:World)(K:Frag)(mg:Str->Option Value)(base:Heap)(k:Nat)(C:Addr)(ps:List Str)(ds:List Value)(sp:Sp):Prop where
 ex:∃(f:Addr)(fd:FuncData),vc P w K mg base CX0 k f fd ps sp/\Binds K fd ps []/\Binds K fd ps ds/\Mk K C f
theorem DefN.callee{P:Program}{w:World}{K:Frag}{mg:Str->Option Value}{base:Heap}{C:Addr}{qual:Str}{st:Stmt}{N ps:List Str}{ds:List Value}{k:Nat}{sp:Sp}(F:DefN K C qual st ps ds)(S:zm N ps (zy st))(len:∀vs H Q E,sp vs H Q E->vs.length=ps.length)
  (bF:∀(f:Addr)(cdv:Value)(A:Around)(outer:List Env)(s:Shared)(H:Hp)(vs:List V)(Q:VK)(E:XK),Room k (A.deeper (envOfC qual (zy st) s.heap.objs.size f cdv))->sp vs H Q E ->
   ∃σ t,start N vs=σ/\PSs (ww CX0 P w K mg base N qual (zy st) f cdv A outer s H E).nox (zr st) t/\t { nx:=λ_ H'=>Q .non H',rt:=Q } σ H):lq P w K mg base (k+1) C ps ds sp:=by
 obtain⟨f,oc,od,dV,kV,doc,pm,an,cdv,ct,osl,lk,pN,M,b0,b1⟩:=F.ex;refine⟨f,_,Om lk pN S len λA outer s H vs Q E hr oK=>?_,b0,b1,M⟩;obtain⟨σ,t,e,h,q⟩:=bF f cdv A outer s H vs Q E hr oK;exact⟨t,h.nox,by rw[e];exact q⟩
section
variable {X:Cx}{C:Addr}{x:Str}{k k':Nat}{ps:List Str}{ds:List Value}{nP:List V}{sp:Sp}{t:TA}{e:Expr}{es:List Expr}{p pos:Pos}
theorem Lw(C':lq X.prog X.w X.K X.mg X.base k C ps ds sp)(hr:Room k' X.A)(hk:k+1<=k')(hm:X.mg x=some (.ref C))(ha:PA X (e::es) t)(hg:Gl X x:=by rfl)
  (kH:(x==("__debug__":Str))=false:=by decide) (he:starEach (e::es) X.env=(false,eval e X.env)::starEach es X.env:=by rfl) (dE:(backTo pos (starEach es X.env)).any (·.1)=false:=by rfl) :
  PE X (.Call (.Name x p) (e::es) [] pos) (Rk C sp [] E0 t):=by
 obtain⟨f,fd,F,b,_,M⟩:=C'.ex;exact Mq M F (hr.mono hk) hg hm b .nil Qb ha kH he dE
end
theorem Lh{K:Frag}{C:Addr}{qual:Str}{st:Stmt}{ps:List Str}{ds:List Value}{f:Addr}{oc dV:Value}{od an:Option Addr}{osl:Array (Option Value)}{kV doc pm cdv ct:Value}
  (a:findIn K (.ref C) "__init__"=some (some (.ref f))) (l:K.lookup f=some ⟨oc,od,.func (fnOf "__init__" qual (zp st) (zr st) (zy st) dV kV doc pm an cdv ct),osl⟩)
  (c:codeIn K cdv qual=true) (fn:isFn K (.ref f)=true) (mk:makesIn K C=true) (kp:keepIn K (.ref C)=true)
  (b0:Binds K (fnOf "__init__" qual (zp st) (zr st) (zy st) dV kV doc pm an cdv ct) ps []) (b1:Binds K (fnOf "__init__" qual (zp st) (zr st) (zy st) dV kV doc pm an cdv ct) ps ds):DefN K C qual st ps ds :=
 ⟨f,oc,od,dV,kV,doc,pm,an,cdv,ct,osl,l,c,⟨mk,a,fn,kp⟩,b0,b1⟩
end
end My
namespace My
section
open PySem PySem.StrLaws PySem.Builtin PySem.Builtin.Str
def jl(y:List Nat):List (List Nat)->List Nat
 |[]=>[]
 |[p]=>p
 |p::q::r=>p++y++jl y (q::r)
theorem qw(y:Str):∀ps:List Str,(Str.join y ps).cps.toList=jl y.cps.toList (ps.map λp=>p.cps.toList)
 |[]=>rfl
 |[p]=>rfl
 |p::q::r=>by
  have ih:=qw y (q::r);show(p++y++Str.join y (q::r)).cps.toList=_;rw[yX,yX,zP,zP,ih]
  rfl
theorem Uo{x y:Str}{c k:Nat}{ys:List Nat}(hy:y.cps.toList=c::ys)(h:At x y x.length k):x.cps.toList[k]?=some c:=by
 have h2:=h.2;rw[subAt_eq]at h2;have h3:=eq_of_beq h2;rw[hy]at h3;have hl:y.length=ys.length+1:=by
  have:y.cps.toList.length=ys.length+1:=by rw[hy];rfl
  simpa[Str.length]using this
 rw[hl]at h3;have h4:((x.cps.toList.drop k).take (ys.length+1))[0]?=some c:=by rw[h3];rfl
 rw[vO (uF _),vD]at h4;exact h4
theorem Cm{x y:Str}{a:Nat}{p r:List Nat}(h:x.cps.toList.drop a=p++y.cps.toList++r)(ha:a<=x.length):At x y x.length (a+p.length):=by
 have hn:x.cps.toList.length=x.length:=by simp[Str.length]
 have hy:y.cps.toList.length=y.length:=by simp[Str.length]
 have hl:=xH List.length h;rw[xY,zE,zE,hn,hy]at hl;refine⟨by lia,?_⟩;rw[subAt_eq,<-List.drop_drop,h,zJ,List.drop_left,<-hy,List.take_left];exact uJ _
theorem kh(x y:Str)(c:Nat)(ys:List Nat)(hy:y.cps.toList=c::ys):∀(ps:List Str)(p:Str)(AD:List Nat)(a f:Nat),ChainG x y x.length a AD f->(∀k,f<=k->¬At x y x.length k)->a<=x.length ->
  x.cps.toList.drop a=jl y.cps.toList ((p::ps).map λp=>p.cps.toList)->(∀q∈p::ps,c∉q.cps.toList)->partsFrom x y.length a AD=p::ps
 |[],p,AD,a,f,hG,hn,ha,hd,hf=>by
  have AQ:x.cps.toList.drop a=p.cps.toList:=hd;have oN:∀k,a<=k->¬At x y x.length k:=λk hk hA=>by
   have h1:=Uo hy hA;have h2:(x.cps.toList.drop a)[k-a]?=some c:=by rw[vD];rw[show a+(k-a)=k by lia];exact h1
   rw[AQ]at h2;exact hf p zD (zB h2)
  cases AD with
  |nil =>
   show[strSub x a x.length]=[p]
   congr 1
   apply Str.ext';apply xE.mp;rw[strSub_toList,AQ];have hn:x.cps.toList.length=x.length:=by simp[Str.length]
   have hl:=xH List.length AQ;rw[xY,hn]at hl;exact List.take_of_length_le (by lia)
  |cons d r=>exact absurd hG.2.1 (oN d hG.1)
 |q::ps,p,AD,a,f,hG,hn,ha,hd,hf=>by
  have AQ:x.cps.toList.drop a=p.cps.toList++y.cps.toList++jl y.cps.toList ((q::ps).map λp=>p.cps.toList):=hd;have hA:=Cm AQ ha;have dE:p.cps.toList.length=p.length:=by simp[Str.length]
  rw[dE]at hA;have oN:∀k,a<=k->k<a+p.length->¬At x y x.length k:=λk hk hk2 hA=>by
   have h1:=Uo hy hA;have h2:(x.cps.toList.drop a)[k-a]?=some c:=by rw[vD];rw[show a+(k-a)=k by lia];exact h1
   rw[AQ,zJ,wW (by rw[dE];lia)]at h2;exact hf p zD (zB h2)
  cases AD with
  |nil =>
   have e:f=a:=hG;exact absurd hA (hn _ (by lia))
  |cons d r =>
   obtain⟨g1,g2,g3,g4⟩:=hG;have e:d=a+p.length:=by
    rcases tM d (a+p.length)with h|h|h
    ·exact absurd g2 (oN d g1 h)
    ·exact h
    ·exact absurd hA (g3 _ (by lia) h)
   subst e;show strSub x a (a+p.length)::partsFrom x y.length (a+p.length+y.length) r=p::q::ps;have e1:strSub x a (a+p.length)=p:=by
    apply Str.ext';apply xE.mp;rw[strSub_toList,AQ,Nat.add_sub_cancel_left,zJ,<-dE,List.take_left]
   have JQ:y.cps.toList.length=y.length:=by simp[Str.length]
   have e2:x.cps.toList.drop (a+p.length+y.length)=jl y.cps.toList ((q::ps).map λp=>p.cps.toList):=by
    rw[Nat.add_assoc,<-List.drop_drop,AQ,<-dE,<-JQ,<-zE,List.drop_left]
   rw[e1,kh x y c ys hy ps q r _ f g4 hn (by have:=g2.1;lia) e2 λz hz=>hf z (zO _ hz)]
theorem O0(x:Str):1<=Builtin.Str.strKind x:=by
 unfold Builtin.Str.strKind;split
 ·exact zT _
 ·split<;>decide
theorem k7(y:Str)(c:Nat)(ys:List Nat)(hy:y.cps.toList=c::ys)(hk:Builtin.Str.strKind y=1)(p:Str)(ps:List Str)(hf:∀q∈p::ps,c∉q.cps.toList):Txt.split (Txt.join y (p::ps)) y=p::ps:=by
 have hj:Txt.join y (p::ps)=Str.join y (p::ps):=glued_eq_join y (p::ps);rw[hj];have JQ:1<=y.length:=by
  have:y.cps.toList.length=ys.length+1:=by rw[hy];rfl
  have:y.length=ys.length+1:=by simpa[Str.length]using this
  lia
 have hJ:=qw y (p::ps);obtain⟨f,hG,hn⟩:=occ_tight (Str.join y (p::ps)) y JQ;have key:=kh (Str.join y (p::ps)) y c ys hy ps p _ 0 f hG hn (yJ _) (by rw[wL];exact hJ) hf;unfold Txt.split;have one:ps=[]->Str.join y (p::ps)=p:=λe=>by rw[e];rfl
 split
 ·rename_i hc;rw[vA,decide_eq_true_eq,decide_eq_true_eq]at hc;rcases hc with h|h
  ·cases ps with
   |nil=>rw[one rfl]
   |cons q r =>
    exfalso;have hl:=xH List.length hJ;have e1:(Str.join y (p::q::r)).cps.toList.length=(Str.join y (p::q::r)).length:=by simp[Str.length]
    have e2:y.cps.toList.length=y.length:=by simp[Str.length]
    rw[e1]at hl;simp only[List.map_cons,jl,zE,e2]at hl;lia
  ·have:=O0 (Str.join y (p::ps));lia
 ·split
  ·rename_i h1 h2;rw[List.isEmpty_iff]at h2;rw[h2]at key;refine Eq.trans ?_ key;show[_]=[strSub _ 0 _]
   rw[sub_whole]
  ·rw[partsBetween_eq];exact key
theorem Ox{y:List Nat}{c:Nat}:∀{ps:List (List Nat)},c∈jl y ps->c∈y\/∃p∈ps,c∈p
 |[],h=>by cases h
 |[p],h=>.inr ⟨p,zX.mpr rfl,h⟩
 |p::q::r,h=>by
  have h':c∈p++y++jl y (q::r):=h;rcases zK.mp h' with h|h
  ·rcases zK.mp h with h|h
   ·exact .inr ⟨p,zD,h⟩
   ·exact .inl h
  ·rcases Ox h with h|⟨p',hp,h⟩
   ·exact .inl h
   ·exact .inr ⟨p',zO _ hp,h⟩
end
end My
namespace My
open PySem PySem.Spec PySem.W PySem.Calls L2
open PyProof.Rows hiding St
section
section
variable {X:Cx}
def Do:List V->Hp->VK->Prop:=λxs H Q=>match xs with
 |[.int i]=>i.natAbs.log2<1920/\Q (.str (toString i)) H
 |_=>False
theorem Jj{i:Int}{H:Hp}{Q:VK}:Do [.int i] H Q=(i.natAbs.log2<1920/\Q (.str (toString i)) H):=rfl
theorem Wb{prog:Program}{w:World}{A:Around}{E:Value->Shared->Prop}{s:Shared}{x y:Str}{t u:Tok}{Q:Value->Shared->Prop}(hy:(y.length==0)=false)(bY:x.length<=sizeLine)(qW:(Txt.split x y).length<=sizeLine)
  (hq:∀(l:List (Str×Tok)) k,l.map (·.1)=Txt.split x y->Q (.ref s.heap.objs.size) { s with heap:=s.heap.push { cls:=.type "list",data:=.seq (strValues l).toArray },toks:=k }) :
  wpAny (model prog w) A (call (.builtin "str.split") [.str x t,.str y u]) Q E s:=by
 cases h1:(decide (x.length<y.length)||decide (Builtin.Str.strKind x<Builtin.Str.strKind y))
 ·cases hf:(Builtin.Str.occurrences x y 0 x.length (x.length+1)).isEmpty
  ·have e:Txt.split x y=Builtin.Str.partsBetween x (Builtin.Str.occurrences x y 0 x.length (x.length+1)) y.length:=(zM (ne_true_of_eq_false h1)).trans (zM (ne_true_of_eq_false hf));rw[e]at qW;refine call_meets F.slot_str_split (uO _ _ _) F.entry_str_split (F.args_str_split_2 _ _) (meets_str_split_sep x y t u h1 hy hf bY qW) ?_;show wants Q E _ { s with toks:=_,heap:=s.heap.push { cls:=.type "list",data:=.seq (strsFrom s.toks (Builtin.Str.partsBetween x (Builtin.Str.occurrences x y 0 x.length (x.length+1)) y.length)).toArray } };rw[strsFrom_eq];exact hq (numbered s.toks _) _ ((numbered_texts _ _).trans e.symm)
  ·exact call_meets F.slot_str_split (uO _ _ _) F.entry_str_split (F.args_str_split_2 _ _) (meets_str_split_not_found x y t u h1 hy hf)
    (hq [(x,t)] _ ((zM (ne_true_of_eq_false h1)).trans (zG hf)).symm)
 ·exact call_meets F.slot_str_split (uO _ _ _) F.entry_str_split (F.args_str_split_2 _ _) (meets_str_split_cannot_occur x y t u h1)
   (hq [(x,t)] _ (zG h1).symm)
theorem Zq:∀(l:List (Str×Tok)),Vals ((l.map (·.1)).map V.str) (strValues l)
 |[]=>.nil
 |p::l=>.cons ⟨p.2,rfl⟩ (Zq l)
def Fy(to:TE)(t:TA):TE:=fun σ H Q=>to σ H (sr λx H1=>t σ H1 (on1 (sr λy H2=>(y.length==0)=false/\x.length<=sizeLine/\(Txt.split x y).length<=1000/\∀(D:Addr)(H3:Hp),H2 D=none->Same H2 H3->H3 D=some (.lst ((Txt.split x y).map V.str))->Q (.ref D) H3)))
theorem Ly{o e:Expr}{to:TE}{t:TA}{apos cpos:Pos}(ho:PE X o to)(ha:PA X [e] t)
  (mH:attributeBase o "split" X.env (eval o X.env)=eval o X.env:=by rfl)
  (qZ:((backTo cpos (starEach [e] X.env)).all (λx=>!x.1)&&(backToKw cpos (keywordEach [] X.env)).all (λx=>x.1.isSome)
  &&decide ([e].length+([]:List Keyword).length+(if([]:List Keyword).isEmpty then 0 else 1)<30))=true:=by rfl)
  (mF:(apos.endLine==cpos.line)=true:=by rfl) (hs:starEach [e] X.env=[(false,eval e X.env)]:=by rfl) :
  PE X (.Call (.Attribute o "split" apos) [e] [] cpos) (Fy to t):=by
 intro pins s σ H Q I h;refine vH mH qZ mF rfl (thn (ho pins s σ H _ I h) λv s1 ⟨x,H1,I1,r1,q1⟩=>?_);cases x with
 |str x =>
  obtain⟨t1,rfl⟩:=r1;refine⟨"str","str.split",tP,F.slot_str_split,F.type_str_split,uO _ _ _,(λ_ e=>nomatch e),?_⟩;have hA:=ha cpos pins s1 σ H1 _ I1 q1;rw[hs]at hA ⊢;refine vG rfl (uS ?_);refine thn hA λus s2 ⟨vs,H2,I2,r2,q2⟩=>?_;rcases vs with _|⟨y,_|⟨z,rr⟩⟩
  ·exact(show False from q2).elim
  ·cases y with
   |str y =>
    obtain⟨hy,bY,qW,q⟩:=(show(y.length==0)=false/\x.length<=sizeLine/\(Txt.split x y).length<=1000/\∀(D:Addr)(H3:Hp),H2 D=none->Same H2 H3->H3 D=some (.lst ((Txt.split x y).map V.str))->Q (.ref D) H3 from q2)
    obtain⟨u,rfl,ru⟩:=qk r2;obtain⟨t2,rfl⟩:=ru;have fr:H2 s2.heap.objs.size=none:=I2.hok.fresh (zT _);refine Wb hy bY (xO (ri qW)) λl k e=>?_;refine⟨.ref s2.heap.objs.size,upd H2 s2.heap.objs.size (.lst ((Txt.split x y).map V.str)),?_,rfl,q _ _ fr (we fr _) zu⟩;refine I2.laid (λb o e1=>zY _ e1) (zT _) ⟨?_,strValues l,0,?_,?_⟩
    ·rw[zV];exact xO (ri qW)
    ·rw[<-e];exact Zq l
    ·exact zS _ rfl
   |_=>exact(show False from q2).elim
  ·exact(show False from q2).elim
 |_=>exact(show False from q1).elim
def Fz(to:TE)(t:TA):TE:=fun σ H Q=>to σ H (sr λx H1=>t σ H1 (on1 (sr λy H2=>Q (.bl (Txt.startswith x y)) H2)))
theorem Y0{o e:Expr}{to:TE}{t:TA}{apos cpos:Pos}(ho:PE X o to)(ha:PA X [e] t)
  (mH:attributeBase o "startswith" X.env (eval o X.env)=eval o X.env:=by rfl)
  (qZ:((backTo cpos (starEach [e] X.env)).all (λx=>!x.1)&&(backToKw cpos (keywordEach [] X.env)).all (λx=>x.1.isSome)
  &&decide ([e].length+([]:List Keyword).length+(if([]:List Keyword).isEmpty then 0 else 1)<30))=true:=by rfl)
  (mF:(apos.endLine==cpos.line)=true:=by rfl) (hs:starEach [e] X.env=[(false,eval e X.env)]:=by rfl) :
  PE X (.Call (.Attribute o "startswith" apos) [e] [] cpos) (Fz to t):=by
 intro pins s σ H Q I h;refine vH mH qZ mF rfl (thn (ho pins s σ H _ I h) λv s1 ⟨x,H1,I1,r1,q1⟩=>?_);cases x with
 |str x =>
  obtain⟨t1,rfl⟩:=r1;refine⟨"str","str.startswith",tP,F.slot_str_startswith,F.type_str_startswith,uO _ _ _,(λ_ e=>nomatch e),?_⟩;have hA:=ha cpos pins s1 σ H1 _ I1 q1;rw[hs]at hA ⊢;refine vG rfl (uS ?_);refine thn hA λus s2 ⟨vs,H2,I2,r2,q2⟩=>?_;rcases vs with _|⟨y,_|⟨z,rr⟩⟩
  ·exact(show False from q2).elim
  ·cases y with
   |str y =>
    have q:Q (.bl (Txt.startswith x y)) H2:=q2;obtain⟨u,rfl,ru⟩:=qk r2;obtain⟨t2,rfl⟩:=ru;exact SC.startswith ⟨.bl _,H2,I2,rfl,q⟩
   |_=>exact(show False from q2).elim
  ·exact(show False from q2).elim
 |_=>exact(show False from q1).elim
end
end
section
open Builtin Builtin.ObjectAttr
section
variable {prog:Program}{w:World}{A:Around}{E:Value->Shared->Prop}{h:Heap}{g:Array GenState}{d:Drawn}{t:Nat}{os:OsState}{C N:Addr}{bm:List Value}{nm q:Str}{bs:List Value}{hdct:Bool}{sn:List Str}{sub:List Value}{ab:Bool}{col:Option Bool}{dd:Option Addr}{k0 k1 k2 k3 k5:Option Value}
theorem li{mN:Str->Option Value}{rest:List Value}{Q:Fin->Shared->Prop}(T:OwnTail h vbm bm)
  (hC:h.get? C=some (excClassObj nm q C N bs bm hdct sn sub ab col dd k0 k1 k2 k3 k5 "ValueError.__new__")) (hn:h.Ns N mN) (EO:mN "__init__"=none)
  (hq:∀h' e,h.objs.size<=e->Heap.MadeExcOf h h' e (.ref C) rest->Q (.done (.ret (.ref e))) ⟨h',g,d,t,os⟩) (jJ:rest.length<=sizeLine) :
  wpAny (model prog w) A (Builtin.«type.__call__» ⟨.ref C::rest,[]⟩) Q E ⟨h,g,d,t,os⟩:=by
 have F:=F.excBase_ValueError
 repeat(first|with_reducible refine xB hC ?_|with_reducible refine wpAny_madeBy_exc hC ?_|wp_step)
 refine codeAny_call_builtin_code (vE _ F.quiet) (wpAny_check_new_subT F T hC ?_);refine codeAny_exc_new_subT F T hC ?_ jJ;show wpAny _ _ _ _ _ _;have kp:∀b o,h.get? b=some o->((h.push { cls:=.type "tuple",data:=.seq rest.toArray }).push { cls:=.ref C,data:=.fields #[.ref h.objs.size,.none,.none,.none,.bool false,.none] }).get? b=some o:=λb o e=>zY _ (zY _ e);have hC₁:=kp _ _ hC;have hn₁:=hn.keeps kp;have AA:((h.push { cls:=.type "tuple",data:=.seq rest.toArray }).push
   { cls:=.ref C,data:=.fields #[.ref h.objs.size,.none,.none,.none,.bool false,.none] }).get? (h.objs.size+1)=some
   { cls:=.ref C,data:=.fields #[.ref h.objs.size,.none,.none,.none,.bool false,.none] }:=by heap_get
 have hcC:(Value.ref C::bm).contains (.ref C)=true:=by simp
 have T₁:=T.keeps kp;unfold isInstance
 repeat(first|with_reducible refine xB AA ?_|(with_reducible refine uD hC₁ ?_;rw[hcC])|wp_step)
 show wpAny _ _ (typeLookup (.ref C) _) _ _ _;refine wpAny_typeLookup_tail hC₁ hn₁ T₁ F.mroIs F.init.lookup ?_;rw[EO];refine xD (zZ (wpAny_of_eq (F.init.bind _) ?_));refine zZ (tU (uQ F.init.plain F.initEntry (wpAny_check_init_subT F T₁ hC₁ AA rfl ?_)))
 wp_walk
 refine hq _ (h.objs.size+1) (wK _) ⟨λb o hb=>?_,vT (wK _),h.objs.size+2,?_,vT (by lia),?_⟩
 ·rw[yR _ _ (wF (vQ (zU hb)))];exact zY _ (kp _ _ hb)
 ·rw[yC _ (zY _ AA) rfl];simp only[xK]
  rfl
 ·rw[yR _ _ (show h.objs.size+1≠h.objs.size+2 by lia)];exact Heap.get?_push_at (by simp only[xK]) rfl
theorem R7{mN:Str->Option Value}{rest:List Value}{Q:Value->Shared->Prop}(T:OwnTail h vbm bm)
  (hC:h.get? C=some (excClassObj nm q C N bs bm hdct sn sub ab col dd k0 k1 k2 k3 k5 "ValueError.__new__")) (hn:h.Ns N mN) (EO:mN "__init__"=none)
  (hq:∀h' e,h.objs.size<=e->Heap.MadeExcOf h h' e (.ref C) rest->Q (.ref e) ⟨h',g,d,t,os⟩) (jJ:rest.length<=sizeLine) :
  wpAny (model prog w) A (call (.ref C) rest) Q E ⟨h,g,d,t,os⟩:=by
 have f1:=tc_lookup;have f2:=tc_bind (.ref C);have hT:(⟨h,g,d,t,os⟩:Shared).TypeIs (.ref C) "type":=⟨_,hC,rfl⟩
 refine tU (codeAny_of_tree ?_);show wpAny _ _ (callAny (.ref C) _) _ _ _
 repeat(any_goals (first|assumption|with_reducible refine xB hC ?_|wp_step))
 refine⟨rfl,?_⟩;refine codeAny_call_builtin_at (vE _ (by decide +kernel)) entry_typeCall (wpAny_check_type_call_sub hC (li T hC hn EO (λh' e hz hm=>?_) jJ));exact hq h' e hz hm
end
structure v9(K:Frag)(C:Addr):Prop where
 x:XCls K C
 e:excIn K C vbm "ValueError.__new__"=true
theorem Gc{K:Frag}{C:Addr}{h:Heap}(X:K.In h)(c:v9 K C):∃bm N nm q bs hdct sn sub ab col dd k0 k1 k2 k3 k5 mN,h.get? C=some (excClassObj nm q C N bs bm hdct sn sub ab col dd k0 k1 k2 k3 k5 "ValueError.__new__")/\h.Ns N mN/\mN "__init__"=none/\OwnTail h vbm bm:=by
 have q:=c.e;unfold excIn at q;split at q
 ·rename_i dd cd sl ho;split at q
  ·rename_i C' bm k0 k1 k2 k3 n k5 hm hs;simp only[yY,wM,Bool.not_eq_true']at q;obtain⟨⟨⟨⟨⟨rfl,rfl⟩,BS⟩,ht⟩,hok⟩,EO⟩:=q;obtain⟨nm,bs,mro,ns,qn,hd,sn,sub,ab,col,del⟩:=cd;dsimp only at hm BS hok EO;subst hm BS;have EM:sl=#[k0,k1,k2,k3,some (.builtin "ValueError.__new__"),k5]:=by
    obtain⟨l⟩:=sl;simp only at hs;rw[hs]
   subst EM;exact⟨bm,ns,nm,qn,bs,hd,sn,sub,ab,col,dd,k0,k1,k2,k3,k5,_,X _ _ ho,.of_isNs (isNs_of_in X hok),nsMap_none_of_in X hok EO,tail_of_in X ht⟩
  ·cases q
 ·cases q
def Rl(C:Addr)(t:TA):TE:=fun σ H Q=>t σ H λvs H1=>vs.length<=sizeLine/\∀a,H1 a=none->Q (.ref a) (upd H1 a (exO a C none true))
theorem xt{X:Cx}{C:Addr}{x:Str}{e:Expr}{es:List Expr}{t:TA}{p pos:Pos}(c:v9 X.K C)(hm:X.mg x=some (.ref C))(ha:PA X (e::es) t)(hg:Gl X x:=by rfl)
  (kH:(x==("__debug__":Str))=false:=by decide) (he:starEach (e::es) X.env=(false,eval e X.env)::starEach es X.env:=by rfl) (dE:(backTo pos (starEach es X.env)).any (·.1)=false:=by rfl) :
  PE X (.Call (.Name x p) (e::es) [] pos) (Rl C t):=by
 intro pins s σ H Q I h;refine xA (vt I hg hm ?_ kH);refine vZ (h₀:=X.base) I.ok.mod.kin c.x.kp (thn (ha pos pins s σ H _ I h) λus s1 ⟨vs,H1,I1,r,hz,q⟩=>⟨I1.kIn,?_⟩) he dE;obtain⟨bm,N,nm,qq,bs,hdct,sn,sub,ab,col,dd,k0,k1,k2,k3,k5,mN,hC,hn,EO,T⟩:=Gc I1.kIn c;obtain⟨hh,g,d,tt,os⟩:=s1;refine R7 T hC hn EO (λh' a UD mE=>?_) (show us.length<=sizeLine by rw[<-r.length];exact hz);obtain⟨tp,ht,_,_⟩:=mE.there;have I2:Inv X pins σ (upd H1 a (exO a C none true)) ⟨h',g,d,tt,os⟩:=I1.laid (a:=a) (t':=tt) mE.keeps UD (nr ⟨_,_,.none,ht,rfl,rfl,rfl,rfl,λ_=>rfl,rfl⟩);exact⟨.ref a,_,I2,rfl,q a (I1.hok.fresh UD)⟩
def Df(K:Frag):List V->Hp->VK->Prop:=λxs H Q=>∃a C dx n c cv b,xs=[.ref a,c]/\H a=some (exO a C dx n)/\(dx=none\/∃d fs,dx=some d/\H d=some (.xd fs))/\XCls K C/\F9 c=some cv/\kitOne K (.ref C) cv=some b/\Q (.bl b) H
section
variable {X:Cx}
theorem sq:vf X (.builtin "isinstance") (Df X.K):=by
 intro pins s σ H xs us Q I r h;obtain⟨a,C,dx,n,c,cv,b,rfl,ea,hd,xc,rc,e,q⟩:=h;obtain⟨u,w',rfl,r1,r2⟩:=lj r;cases r1;obtain rfl:=Ru rc r2;obtain⟨oe,vs,v1,e1,e2,e3,e4,e5,e6⟩:=tm I.hok ea;rcases hd with rfl|⟨d,fs,rfl,ed⟩
 ·have J:W.InstAt s.heap a oe C none:=⟨e1,e2,by unfold notCls;rw[e4],by rw[e3];trivial⟩
  exact kia_one (O1 (ox:=oe) (od:=none) xc) I.kIn J e (λz=>nomatch z) λtk=>⟨.bl b,H,I.tok tk,rfl,q⟩
 ·obtain⟨mA,ns,_⟩:=(show∃mA,s.heap.Ns1 d mA/\∀f,RelO (fs.lookup f) (mA f)from I.hok d _ ed)
  obtain⟨od,hod,hl⟩:=b8 ns;have J:W.InstAt s.heap a oe C (some od):=⟨e1,e2,by unfold notCls;rw[e4],by rw[e3];exact hod⟩
  exact kia_one (O1 (ox:=oe) (od:=some od) xc) I.kIn J e (λz=>nomatch z) λtk=>⟨.bl b,H,I.tok tk,rfl,q⟩
theorem qz{x:Str}{pos:Pos}{i:Int}{tk:Tok}(hm:X.mg x=some (.int i tk))(hg:Gl X x:=by rfl)(kH:(x==("__debug__":Str))=false:=by decide):PE X (.Name x pos) (tC (.int i)) :=
 λpins s σ H Q I h=>vt I hg hm ⟨.int i,H,I,⟨tk,rfl⟩,h⟩ kH
def Bj(K:Frag)(g:Bool->Bool):R2:=λx y H Q=>∃d ds,Has K H x d/\Has K H y (.list ds)/\PyData.canLay0 d=true/\PyData.canLayAll0 ds=true/\PyData.depthAll ds<=60/\Q (.bl (g (ds.any λy=>PyData.eqv y d))) H
theorem Ds(hu:X.A.units+64<cLine):OpR X (compareOp .In) (Bj X.K id):=by
 intro pins s σ H x y v u Q I rx ry h;obtain⟨d,ds,h1,h2,c1,c2,hd,q⟩:=h;obtain⟨as,ra⟩:=wk I d _ _ h1 rx;obtain⟨bs,rb⟩:=wk I _ _ _ h2 ry;exact SeqAt.in_list_reads rb ra c2 c1 (by lia) ⟨.bl _,H,I,rfl,q⟩
end
end
section
def fu(X:Cx):Value->Shared->Prop:=notedBy (model X.prog X.w) X.A X.env (cameBackBy (model X.prog X.w) X.A X.env X.xe)
section
variable {M:Model}{A:Around}{E:Value->Shared->Prop}{s:Shared}{a C L:Addr}{dx:Option Addr}
theorem Gi{T:Addr}{v:Value}{x:String}{Q:Unit->Shared->Prop}(F:Fly s.heap a C dx (some (T,v)))
  (h:∀h',(∀b o,b≠T->s.heap.get? b=some o->h'.get? b=some o)->Fly h' a C dx (some (T,rawInt L))->Q () { s with heap:=h' }):wpAny M A (do
   if(<-field (.ref a) 1) == .none then unsupported x
   setFlight (.ref a) (some L)) Q E s:=by
 obtain⟨oe,vs,he,hc,nN,hd,h2,h1,CQ,oT,ts,hT,AO,h3⟩:=F;have bY:=(yD.mp h3).1;refine zZ (yF he hd h1 ?_);rw[zM (show¬((Value.ref T==Value.none)=true)from by simp)];unfold setFlight;refine zZ (yF he hd h1 ?_);rw[zG (show(Value.ref T != Value.none)=true from by simp)];refine tG hT AO bY (h _ (λb o hb e=>(yR _ _ (wU hb)).trans e) ?_);exact⟨oe,vs,(yR _ _ CQ).trans he,hc,nN,hd,h2,h1,CQ,_,_,yC _ hT (vX (wS AO _)),wS AO _,by simp[Array.getElem?_setIfInBounds,bY]⟩
end
section
variable {P:Program}{w:World}{K:Frag}{mg:Str->Option Value}{base:Heap}{N:List Str}{qual:Str}{scope:Scope}{f:Addr}{cd:Value}{A:Around}{outer:List Env}{s₀:Shared}{H₀:Hp}{E:XK}
theorem S0{pins:List (Addr×Obj)}{σ:St}{H:Hp}{s:Shared}{a C T:Addr}{dx:Option Addr}(I:Inv (ww (CXr P w) P w K mg base N qual scope f cd A outer s₀ H₀ E) pins σ H s)(ea:H a=some (exO a C dx false))(F:Fly s.heap a C dx (some (T,rawInt s₀.heap.objs.size)))
  (hT:H T=none) (hz:s₀.heap.objs.size<=T) (hE:E (.ref a) dx H):(ww (CXr P w) P w K mg base N qual scope f cd A outer s₀ H₀ E).xe (.ref a) s:=by
 show wpAny (model P w) (A.deeper (envOfC qual scope s₀.heap.objs.size f cd)) (leaving (envOfC qual scope s₀.heap.objs.size f cd) (.ref a)) _ _ s;unfold leaving;obtain⟨oe,vs,e1,e2,e3,e4,_,e5,e6,oT,ts,g1,g2,g3⟩:=id F;refine zZ ?_;unfold noteFrame;simp only[show(envOfC qual scope s₀.heap.objs.size f cd).frame=some s₀.heap.objs.size from rfl];refine zZ (yF e1 e4 e5 ?_);rw[zG (show(Value.ref T != Value.none)=true from by simp)];refine zZ (yF g1 g2 g3 ?_);rw[zG (show(rawInt s₀.heap.objs.size==rawInt s₀.heap.objs.size)=true from by simp)];refine zW (o4 F λh2 k2 F2=>?_);have na:∀b,H b=none->b≠a:=λb q z=>by rw[z,ea]at q;cases q
 have HZ:∀b o,s₀.heap.get? b=some o->b≠T:=λb o e=>zC (zA (zU e) hz);have B:=I.base;refine⟨a,C,dx,H,T,rfl,I.os,I.bare,⟨λb o e q hb hx=>k2 b o (HZ b o e) (B.keep b o e q hb hx),λb o e q hb hx=>?_,B.free,λb o e hx=>?_,B.tups,B.frzs,B.tbls⟩,λb o e=>?_,ea,hT,hz,F2,hE⟩
 ·obtain⟨sl,q1⟩:=B.slot b o e q hb hx;exact⟨sl,k2 b _ (HZ b o e) q1⟩
 ·obtain⟨o1,q1⟩:=B.there b o e hx;exact⟨o1,k2 b _ (HZ b o e) q1⟩
 ·by_cases z:b=a
  ·subst z;rw[ea]at e;cases e;obtain⟨oe,vs,e1,e2,e3,e4,h2,r⟩:=F2;exact nr ⟨oe,vs,_,e1,e2,e3,e4,r.1,(λz=>by cases z),h2⟩
  ·refine(I.hok b o e).stay (λc u hc g=>k2 c u (λy=>?_) g) (λc g=>g) λc xs g=>g;subst y;rcases hc with y|y
   ·rw[y,e]at hT;cases hT
   ·rw[y]at hT;cases hT
theorem P9{pins:List (Addr×Obj)}{σ:St}{H1 H:Hp}{s1 s:Shared}{a C:Addr}{dx:Option Addr}{n:Bool}{old:Option (Addr×Value)}(I1:Inv (ww (CXr P w) P w K mg base N qual scope f cd A outer s₀ H₀ E) pins σ H1 s1)(os:s.os=s1.os)(bare:AllBare s.gens)
  (un:Un (frs (envOfC qual scope s₀.heap.objs.size f cd::outer)) [] H1 H s1.heap s.heap) (I:Inv (ww (CXr P w) P w K mg base N qual scope f cd A outer s₀ H₀ E) pins σ H s) (ea:H a=some (exO a C dx n)) (F:Fly s.heap a C dx old)
  (ho:∀T v,old=some (T,v)->v = .none/\H T=none/\s1.heap.objs.size<=T) (hE:E (.ref a) dx (upd H a (exO a C dx false))):fu (ww (CXr P w) P w K mg base N qual scope f cd A outer s₀ H₀ E) (.ref a) s:=by
 show wpAny (model P w) (A.deeper (envOfC qual scope s₀.heap.objs.size f cd)) (noteFrame (.ref a) (envOfC qual scope s₀.heap.objs.size f cd)) _ _ s;refine Xb (base:=base) (L:=s₀.heap.objs.size) I.ok.frames I.stack rfl F (λT v q=>(ho T v q).1) λh1 T hz Nt F1=>?_;refine Gi (s:={ s with heap:=h1 }) (L:=s₀.heap.objs.size) F1 λh2 k2 F2=>?_;have na:∀b,H b=none->b≠a:=λb q z=>by rw[z,ea]at q;cases q
 have nT:∀b o,s.heap.get? b=some o->b≠T:=λb o e=>zC (zA (zU e) hz);have DD:=og I ea (λT v q=>(ho T v q).2.1) Nt hz k2 F2;have I2:Inv (ww (CXr P w) P w K mg base N qual scope f cd A outer s₀ H₀ E) pins σ (upd H a (exO a C dx false)) { s with heap:=h2 }:=by
  refine Inv.call' (ch:=[]) I1 (s':={ s with heap:=h2 }) os ⟨λb o e q hb hx=>?_,λb o e q hb hx=>?_,λb o e q hx=>?_,λb o e hx=>?_,λb xs e=>?_,λb o u e=>?_,λb ps e=>?_⟩ DD bare (λb z=>absurd z (by simp))
  ·have g:=un.keep b o e q hb hx;refine k2 b o (nT b o g) (Nt.keep b o g hb (na b (un.free b o e q hx)) λT' v' z y=>?_);exact absurd (zU e) (by rw[y];exact tT.mpr (ho T' v' z).2.2)
  ·obtain⟨sl,g⟩:=un.slot b o e q hb hx;obtain⟨CJ,g2⟩:=Nt.slot b _ g hb;exact⟨CJ,k2 b _ (nT b _ g) g2⟩
  ·have e2:=un.free b o e q hx;rw[zj (na b e2)];exact e2
  ·obtain⟨o1,g⟩:=un.there b o e hx;obtain⟨o2,g2⟩:=Nt.there b o1 g;exact⟨o2,k2 b _ (nT b _ g) g2⟩
  ·have e1:=un.tups b xs e;rw[zj λz=>by rw[z,ea]at e1;cases e1];exact e1
  ·have e1:=un.frzs b o u e;rw[zj λz=>by rw[z,ea]at e1;cases e1];exact e1
  ·obtain⟨m,e1⟩:=un.tbls b ps e;exact⟨m,by rw[zj λz=>by rw[z,ea]at e1;cases e1];exact e1⟩
 have hTn:=I.hok.fresh hz;exact S0 I2 zu F2 (by rw[zj (na T hTn)];exact hTn) (yQ I.sz hz) hE
theorem Vi:Zv ((ww (CXr P w) P w K mg base N qual scope f cd A outer s₀ H₀ E).wish (fu (ww (CXr P w) P w K mg base N qual scope f cd A outer s₀ H₀ E))) E:=by
 intro pins σ H s a C dx I ea hE;have I:=I.unwish;obtain⟨oe,vs,v1,e1,e2,e3,e4,e5,e6⟩:=tm I.hok ea;obtain rfl:=e6.1 rfl;exact P9 (old:=none) I rfl I.bare (Un.refl ..) I ea ⟨oe,vs,e1,e2,e3,e4,e6.2,e5⟩ (λ_ _ z=>nomatch z) hE
theorem U9:wj (CXr P w) ((ww (CXr P w) P w K mg base N qual scope f cd A outer s₀ H₀ E).wish (fu (ww (CXr P w) P w K mg base N qual scope f cd A outer s₀ H₀ E))) E:=by
 intro pins σ H s e s' I h;have I:=I.unwish;obtain⟨a,C,dx,H',T,rfl,os,bare,un,hok,ea,hT,hz,F,hE⟩:=h;have I':=Inv.call' (ch:=[]) I os un hok bare (λb z=>absurd z (by simp));exact P9 (old:=some (T,.none)) I os bare un I' ea F (λT' v' z=>by cases z;exact⟨rfl,hT,hz⟩) (by rw[X7 ea];exact hE)
end
section
variable {X:Cx}{tg:Expr}
theorem ag{iter:Expr}{body:List Stmt}{wi:TI}{g:TG}{tb:TS}{pos:Pos}(hc:X.calm=true)(hi:PI X tg iter wi)(hg:PG (X.wish (fu X)) tg g)(hb:PSs (X.wish (fu X)) body tb)
  (hs:∀x,foldedSetIterable iter X.env x=pure x:=by intro _;rfl):PS X (.For tg iter body [] pos) (Hk wi g tb):=by
 intro pins s σ H D I h;refine wpAny_For (thn (hi pins s σ H _ I h) λv s1 h1=>thn h1 λitv s2 h2=>?_) hs;obtain⟨it,fp,tn,J,H2,e,I2,T,KR,f2,W,⟨m0,w0⟩,lN⟩:=h2;subst e;have qQ:∀{H':Hp},(∀b∈fp,H' b=none)->∀b∈fp,pk X pins H' b:=λhn b hb=>⟨hn b hb,(f2 b hb).2⟩
 refine codeAny_forLoop_any (λn s'=>∃i σ' H',Inv X pins σ' H' s'/\tn i s'.heap/\(∀b∈fp,H' b=none)/\W i n σ' H') ?_ m0 ⟨0,σ,H2,I2,KR,λb hb=>(f2 b hb).1,w0⟩;rintro n s3 ⟨i,σ3,H3,I3,KQ,VL,w3⟩;rcases lN i n σ3 H3 w3 with⟨stop,qn⟩|⟨go,N,hN,step⟩
 ·refine thn (T.done X rfl rfl rfl hc i pins s3 σ3 H3 _ I3 (qQ VL) KQ stop) λr s4 ⟨hr,I4⟩=>?_;subst hr;exact wI ⟨σ3,H3,I4,qn⟩
 ·refine thn (T.item X rfl rfl rfl hc i pins s3 σ3 H3 _ I3 (qQ VL) KQ go) λr s4 ⟨u,hr,h4⟩=>?_;subst hr;refine thn h4 λ_ s5 ⟨x,H5,I5,r5,y5,CI,KI⟩=>?_;have I5':=I5.pinned (qQ KI) (T.obj _ _ CI);refine thn (hg _ s5 σ3 H5 x u _ (I5'.wish _) r5 (step x H5 y5)) λ_ s6 ⟨σ6,H6,I6,q6⟩=>?_;refine thn (hb _ s6 σ6 H6 _ I6 q6) λf s7 q7=>?_;have again:∀{σ7:St}{H7:Hp},Inv X (pins++qa fp s5.heap) σ7 H7 s7->N σ7 H7->∃m,m<n/\∃i σ' H',Inv X pins σ' H' s7/\tn i s7.heap/\(∀b∈fp,H' b=none)/\W i m σ' H':=λ{σ7 H7} I7 n7=>by
   obtain⟨m',hm,w7⟩:=hN σ7 H7 n7;refine⟨m',hm,i+1,σ7,H7,I7.unpinned,T.keep _ _ _ CI λb hb o e=>(I7.pin (b,o) (zQ _ (zQ _ (wn hb e)))).1,λb hb=>?_,w7⟩;obtain⟨o,e,d⟩:=T.obj _ _ CI b hb;exact(I7.pin (b,o) (zQ _ (zQ _ (wn hb e)))).2.1
  have q8:SP X (pins++qa fp s5.heap) _ f s7:=q7.unwish;cases f with
  |next=>obtain⟨σ7,H7,I7,n7⟩:=q8;exact again I7 n7
  |cont=>obtain⟨σ7,H7,I7,n7⟩:=q8;exact again I7 n7
  |brk=>obtain⟨σ7,H7,I7,q7⟩:=q8;exact⟨σ7,H7,I7.unpinned,q7⟩
  |ret v=>obtain⟨x7,σ7,H7,I7,r7,q7⟩:=q8;exact⟨x7,σ7,H7,I7.unpinned,r7,q7⟩
end
theorem U8{P:Program}{w:World}{X:Cx}:wj (CXr P w) X (λ_ _ _=>False):=by
 intro pins σ H s e s' I h;obtain⟨a,C,dx,H',T,_,_,_,_,_,_,_,_,_,z⟩:=h;exact z.elim
section
variable {X:Cx}
def Ko:R2:=λx y H Q=>∃a n,x = .str a/\y = .int n/\MulOk a n/\Q (.str (Txt.mul a n)) H
theorem pw:OpR X (binaryOp .Mult) Ko:=by
 intro pins s σ H x y v u Q I rx ry h;obtain⟨a,n,rfl,rfl,ok,q⟩:=h;obtain⟨t,rfl⟩:=(show∃t,v=Value.str a t from rx)
 obtain⟨t',rfl⟩:=(show∃t,u=Value.int n t from ry)
 exact SB.mul ok λt' k=>⟨.str _,H,I.tok _,⟨_,rfl⟩,q⟩
end
end
section
section
variable {X:Cx}
def K6(to:TE)(t:TA):TE:=fun σ H Q=>to σ H (sr λx H1=>t σ H1 λvs H2=>∃y i,vs=[.str y,.int i]/\Q (.bl (Txt.startswith3 x y i)) H2)
theorem S7{o e1 e2:Expr}{to:TE}{t:TA}{apos cpos:Pos}(ho:PE X o to)(ha:PA X [e1,e2] t)
  (mH:attributeBase o "startswith" X.env (eval o X.env)=eval o X.env:=by rfl)
  (qZ:((backTo cpos (starEach [e1,e2] X.env)).all (λx=>!x.1)&&(backToKw cpos (keywordEach [] X.env)).all (λx=>x.1.isSome)
  &&decide ([e1,e2].length+([]:List Keyword).length+(if([]:List Keyword).isEmpty then 0 else 1)<30))=true:=by rfl)
  (mF:(apos.endLine==cpos.line)=true:=by rfl) (hs:starEach [e1,e2] X.env=[(false,eval e1 X.env),(false,eval e2 X.env)]:=by rfl) :
  PE X (.Call (.Attribute o "startswith" apos) [e1,e2] [] cpos) (K6 to t):=by
 intro pins s σ H Q I h;refine vH mH qZ mF rfl (thn (ho pins s σ H _ I h) λv s1 ⟨x,H1,I1,r1,q1⟩=>?_);cases x with
 |str x =>
  obtain⟨t1,rfl⟩:=r1;refine⟨"str","str.startswith",tP,F.slot_str_startswith,F.type_str_startswith,uO _ _ _,(λ_ e=>nomatch e),?_⟩;have hA:=ha cpos pins s1 σ H1 _ I1 q1;rw[hs]at hA ⊢;refine vG rfl (uS ?_);refine thn hA λus s2 ⟨vs,H2,I2,r2,q2⟩=>?_;obtain⟨y,i,rfl,q⟩:=q2;obtain⟨u,w',rfl,ru,CK⟩:=lj r2;obtain⟨t2,rfl⟩:=(show∃t,u=Value.str y t from ru)
  obtain⟨t3,rfl⟩:=(show∃t,w'=Value.int i t from CK)
  exact SC.startswith3 ⟨.bl _,H2,I2,rfl,q⟩
 |_=>exact(show False from q1).elim
def tFr(te:TE):TE:=fun σ H Q=>te σ H (sr λy H1=>(reprText y).length<=sizeLine/\Q (.str (reprText y)) H1)
theorem cr{e:Expr}{te:TE}{pos:Pos}(ha:PE X e te):PE X (.FormattedValue e 114 none pos) (tFr te):=by
 intro pins s σ H Q I h;refine wpAny_FormattedValue_repr (thn (ha pins s σ H _ I h) λv s1 ⟨x,H1,I1,r1,q1⟩=>?_);cases x with
 |str y =>
  obtain⟨t1,rfl⟩:=r1;obtain⟨h2,h3⟩:=(show(reprText y).length<=sizeLine/\Q (.str (reprText y)) H1 from q1)
  exact pyReprObj_str (formatField_str (λt' tk=>⟨.str _,H1,I1.tok _,⟨_,rfl⟩,h3⟩) h2) h2
 |_=>exact(show False from q1).elim
def Bk:R2:=λx y H Q=>∃a b,x = .str a/\y = .str b/\Q (.bl (Txt.contains b a)) H
theorem Dt:OpR X (compareOp .In) Bk:=by
 intro pins s σ H x y v u Q I rx ry h;obtain⟨a,b,rfl,rfl,q⟩:=h;obtain⟨t,rfl⟩:=(show∃t,v=Value.str a t from rx)
 obtain⟨t',rfl⟩:=(show∃t,u=Value.str b t from ry)
 exact SB.contains ⟨.bl _,H,I,rfl,q⟩
theorem Lv{x y:Str}{pos:Pos}{tk:Tok}(hm:X.mg x=some (.str y tk))(hg:Gl X x:=by rfl)(kH:(x==("__debug__":Str))=false:=by decide):PE X (.Name x pos) (tC (.str y)) :=
 λpins s σ H Q I h=>vt I hg hm ⟨.str y,H,I,⟨tk,rfl⟩,h⟩ kH
def DictK(P:Program)(w:World)(K:Frag)(a:Addr)(kvs:List (Key×Value)):Prop:=∃o es ep,K.lookup a=some o/\o.ExactDict/\o.data = .dict es ep/\KeysOf (uz P w) es/\Pairs (uz P w) es.toList kvs/\(kvs.map (·.1)).Nodup/\(a==sysModules)=false
theorem DictK.of{P:Program}{w:World}{K:Frag}{a:Addr}{kvs:List (Key×Value)}{h:Heap}(d:DictK P w K a kvs)(X:K.In h):(a==sysModules)=false/\h.DictOf (uz P w) a kvs:=by
 obtain⟨o,es,ep,h1,h2,h3,h4,h5,h6,h7⟩:=d;exact⟨h7,o,es,ep,X _ _ h1,h2,h3,h4,h5,h6⟩
def Fu(P:Program)(w:World)(K:Frag)(td ti:TE):TE:=fun σ H Q=>td σ H (Y7 λa H1=>ti σ H1 (sr λx H2=>∃kvs u v,DictK P w K a kvs/\valueAt kvs (Sum.inr x)=some u/\RelV v u/\Q v H2))
theorem Lu{o i:Expr}{td ti:TE}{pos:Pos}(ho:PE X o td)(hi:PE X i ti)(hs:Cd i):PE X (.Subscript o i pos) (Fu X.prog X.w X.K td ti):=by
 intro pins s σ H Q I h;refine No F.slot_dict_getitem.lookup hs (thn (ho pins s σ H _ I h) λu s1 ⟨x,H1,I1,rx,q1⟩=>?_);cases x with
 |ref a =>
  cases rx;refine thn (hi pins s1 σ H1 _ I1 q1) λiv s2 ⟨y,H2,I2,ry,q2⟩=>?_;cases y with
  |str n =>
   obtain⟨kvs,u,v,d,ev,rv,q⟩:=(show∃kvs u v,DictK X.prog X.w X.K a kvs/\valueAt kvs (Sum.inr n)=some u/\RelV v u/\Q v H2 from q2)
   obtain⟨hd,dd⟩:=d.of I2.kIn;obtain⟨o',es,ep,g1,g2,_⟩:=id dd;exact⟨⟨o',g1,g2.1⟩,wpAny_getItem_of (Kk (k:=Sum.inr n) ry) dd.mapOf ev ⟨v,H2,I2.tok _,rv,q⟩⟩
  |_=>exact(show False from q2).elim
 |_=>exact(show False from q1).elim
def Di(P:Program)(w:World)(K:Frag):R2:=λx y H Q=>∃n a kvs,x = .str n/\y = .ref a/\DictK P w K a kvs/\Q (.bl (!(valueAt kvs (Sum.inr n)).isSome)) H
theorem Pg:OpR X (compareOp .NotIn) (Di X.prog X.w X.K):=by
 intro pins s σ H x y v u Q I rx ry h;obtain⟨n,a,kvs,rfl,rfl,d,q⟩:=h;cases ry;obtain⟨hd,dd⟩:=d.of I.kIn;exact wpAny_notIn_of (Kk (k:=Sum.inr n) rx) hd dd.mapOf ⟨.bl _,H,I.tok _,rfl,q⟩
end
def Its(x:Str):It:=⟨λi _=>i<x.length,λi H v H'=>H'=H/\∃c,x.cps[i]?=some c/\v = .str ⟨#[c]⟩,λi _=>x.length<=i⟩
theorem Ub{P:Program}{w:World}{K:W.Frag}{tg:Expr}(x:Str)(t:Tok)(it:Addr):dz P w K tg (Its x) [it] it (λi h=>h.IsStrIter it "str_ascii_iterator" x t i)where
 mem:=by simp
 obj:=λi h st b hb=>by
  have e:b=it:=by simpa using hb
  subst e;obtain⟨o,e,c,d⟩:=st;exact⟨o,e,λv z=>by rw[d]at z;cases z⟩
 keep:=λi h h' st k=>by
  obtain⟨o,e,r⟩:=st;exact⟨o,k it (by simp) o e,r⟩
 item:=by
  intro X hP hw hK hc i pins s σ H E I hf st hg;subst hP hw hK;obtain⟨c,hx⟩:∃c,x.cps[i]?=some c:=⟨_,uE hg⟩
  obtain⟨f0,f1,f2,f3,f4,f5⟩:=hf it (by simp);refine wpAny_pyNext_ascii_item st hx λh' iL sb=>?_;have I1:Inv X pins σ H { s with heap:=h',toks:=s.toks+1 }:=I.turned (t':=s.toks+1) (λb o hb e=>(sb.2 b hb).trans e) f0 f1 f3 f4 f5;obtain⟨o,e,c',d⟩:=id iL;exact⟨_,rfl,bq (s:={ s with heap:=h',toks:=s.toks+1 }) e c' d (by decide) ⟨.str ⟨#[c]⟩,H,I1,⟨_,rfl⟩,⟨rfl,c,hx,rfl⟩,iL,λb hb=>(hf b hb).1⟩⟩
 done:=by
  intro X hP hw hK hc i pins s σ H E I hf st hg;subst hP hw hK;obtain⟨f0,f1,f2,f3,f4,f5⟩:=hf it (by simp);exact wpAny_pyNext_ascii_end (I.ok.hd hc) st (Array.getElem?_eq_none hg) λh' eb=>⟨rfl,I.turned (t':=s.toks) (λb o hb e=>eb b o hb e) f0 f1 f3 f4 f5⟩
 self:=λ_ _ _ _ _ st h=>wpAny_pyIter_striter_ascii st h
theorem Uc{P:Program}{w:World}{K:W.Frag}{tg:Expr}(x:Str)(t:Tok)(it:Addr):dz P w K tg (Its x) [it] it (λi h=>h.IsStrIter it "str_iterator" x t i)where
 mem:=by simp
 obj:=λi h st b hb=>by
  have e:b=it:=by simpa using hb
  subst e;obtain⟨o,e,c,d⟩:=st;exact⟨o,e,λv z=>by rw[d]at z;cases z⟩
 keep:=λi h h' st k=>by
  obtain⟨o,e,r⟩:=st;exact⟨o,k it (by simp) o e,r⟩
 item:=by
  intro X hP hw hK hc i pins s σ H E I hf st hg;subst hP hw hK;obtain⟨c,hx⟩:∃c,x.cps[i]?=some c:=⟨_,uE hg⟩
  obtain⟨f0,f1,f2,f3,f4,f5⟩:=hf it (by simp);refine wpAny_pyNext_wide_item st hx λh' iL sb=>?_;have I1:Inv X pins σ H { s with heap:=h',toks:=s.toks+1 }:=I.turned (t':=s.toks+1) (λb o hb e=>(sb.2 b hb).trans e) f0 f1 f3 f4 f5;obtain⟨o,e,c',d⟩:=id iL;exact⟨_,rfl,bq (s:={ s with heap:=h',toks:=s.toks+1 }) e c' d (by decide) ⟨.str ⟨#[c]⟩,H,I1,⟨_,rfl⟩,⟨rfl,c,hx,rfl⟩,iL,λb hb=>(hf b hb).1⟩⟩
 done:=by
  intro X hP hw hK hc i pins s σ H E I hf st hg;subst hP hw hK;obtain⟨f0,f1,f2,f3,f4,f5⟩:=hf it (by simp);exact wpAny_pyNext_wide_end (I.ok.hd hc) st (Array.getElem?_eq_none hg) λh' eb=>⟨rfl,I.turned (t':=s.toks) (λb o hb e=>eb b o hb e) f0 f1 f3 f4 f5⟩
 self:=λ_ _ _ _ _ st h=>wpAny_pyIter_striter_wide st h
section
variable {X:Cx}{tg:Expr}
def Cz(tl:TE):TI:=fun σ H R=>tl σ H (sr λx H1=>R (Its x) H1)
theorem Qj{l:Expr}{tl:TE}(hl:PE X l tl):PI X tg l (Cz tl):=by
 intro pins s σ H R I h;refine thn (hl pins s σ H _ I h) λv s1 ⟨x,H1,I1,r1,q1⟩=>?_;cases x with
 |str x =>
  obtain⟨t1,rfl⟩:=r1;have q:R (Its x) H1:=q1;have fp:∀b∈[s1.heap.objs.size],pk X pins H1 b:=λb hb=>by
   have e:b=s1.heap.objs.size:=by simpa using hb
   subst e;exact I1.fpOk (zT _) (I1.hok.fresh (zT _))
  cases ha:x.cps.all (·<128)with
  |true=>exact wpAny_pyIter_ascii ha ⟨s1.heap.objs.size,[s1.heap.objs.size],_,_,H1,rfl,I1.kept (t':=s1.toks) λb o e=>zY _ e,Ub x t1 _,⟨_,zS _ rfl,rfl,rfl⟩,fp,q⟩
  |false=>exact wpAny_pyIter_wide ha ⟨s1.heap.objs.size,[s1.heap.objs.size],_,_,H1,rfl,I1.kept (t':=s1.toks) λb o e=>zY _ e,Uc x t1 _,⟨_,zS _ rfl,rfl,rfl⟩,fp,q⟩
 |_=>exact(show False from q1).elim
end
theorem O7{x:Str}{g:TG}{tb:TS}{D:wa}{σ:St}{H:Hp}(Pv:Nat->St->Hp->Prop)(h0:Pv 0 σ H)
  (hs:∀i c σ H,x.cps[i]?=some c->Pv i σ H->g (.str ⟨#[c]⟩) σ H fun σ2 H2=>tb { D with nx:=Pv (i+1),ct:=Pv (i+1),bk:=D.nx } σ2 H2) (hd:∀σ H,Pv x.length σ H->D.nx σ H):Zu g tb (Its x) D σ H :=
 o9 (J:=Its x) (n:=x.length) Pv h0 (λ_ _ _ hi _=>hi) (λ_ _ _=>zT _) (λi v σ H H' hi p y=>by
  obtain⟨rfl,c,hc,rfl⟩:=y;exact hs i c σ _ hc p) hd
theorem Oh{x:Str}{te:TE}{ρ:St}{Q:VK}{H1:Hp}(Pv:Addr->Nat->List V->Hp->Prop)(bY:x.length<=sizeLine)
  (h0:∀D H2,H1 D=none->Same H1 H2->H2 D=some (.lst [])->Pv D 0 [] H2)
  (hl:∀D i ys H,Pv D i ys H->H D=some (.lst ys)/\ys.length=i)
  (hs:∀D i c ys H,x.cps[i]?=some c->Pv D i ys H->te (some (.str ⟨#[c]⟩) :: ρ) H λy H3=>H3 D=some (.lst ys)/\CN x.length i (Pv D (i+1) (ys++[y]) (upd H3 D (.lst (ys++[y])))))
  (hd:∀D ys H,Pv D x.length ys H->Q (.ref D) H):qf 1 (mG 0) dr te ρ (Its x) Q H1 :=
 o0 (J:=Its x) Pv bY h0 (λD i ys H _ p=>⟨(hl D i ys H p).1,uH (hl D i ys H p).2⟩) (λ_ _ _ _ hi _=>hi) (λ_ _ _ _=>zT _) (λD i v ys H H' τ hi hτ p y=>by
  obtain⟨t,rfl⟩:=ae hτ;obtain⟨rfl,c,hc,rfl⟩:=y;exact⟨⟨[some _],rfl,rfl⟩,hs D i c ys _ hc p⟩) hd
structure yk(P:Program)(w:World)(K:W.Frag)(mg:Str->Option Value)(base:Heap)(k:Nat)(C:Addr)(x:Str)(ps:List Str)(sp:Sp):Prop where
 ex:∃(f:Addr)(fd:FuncData),vc P w K mg base (CXr P w) k f fd ps sp/\Binds K fd ps []/\R3 K C x f/\Cls K C
section
variable {P:Program}{w:World}{K:W.Frag}{mg:Str->Option Value}{base:Heap}
theorem DefM.calleeX{C:Addr}{x qual:Str}{st:Stmt}{N ps:List Str}{k:Nat}{sp:Sp}(F:DefM K C x qual st ps)(S:zm N ps (zy st))(len:∀vs H Q E,sp vs H Q E->vs.length=ps.length)
  (bF:∀(f:Addr)(cdv:Value)(A:Around)(outer:List Env)(s:Shared)(H:Hp)(vs:List V)(Q:VK)(E:XK),Room k (A.deeper (envOfC qual (zy st) s.heap.objs.size f cdv))->sp vs H Q E ->
   ∃σ t,start N vs=σ/\PSs (ww (CXr P w) P w K mg base N qual (zy st) f cdv A outer s H E) (zr st) t/\t { nx:=λ_ H'=>Q .non H',rt:=Q } σ H):yk P w K mg base (k+1) C x ps sp:=by
 obtain⟨f,fd,F,b,hm,hc⟩:=F.ex;refine⟨f,fd,okX F S len λcdv A outer s H vs Q E hr h=>?_,.all b,hm,hc⟩;obtain⟨σ,t,e,ht,q⟩:=bF f cdv A outer s H vs Q E hr h;exact⟨t,ht,by rw[e];exact q⟩
theorem ub{X:Cx}{C:Addr}{k k':Nat}{x:Str}{ps:List Str}{sp:Sp}{ta:TE}{t:TA}{o e:Expr}{es:List Expr}{pos apos:Pos}{pl:Sem Bool}{E:XK}(C':yk X.prog X.w X.K X.mg X.base k C x ps sp)(hx:wj (CXr X.prog X.w) X E)(hr:Room k' X.A)(hk:k<=k')(ho:PE X o ta)(ha:PA X (e::es) t)
  (gY:starEach (e::es) X.env=(false,eval e X.env)::starEach es X.env:=by rfl) (dE:(backTo pos (starEach es X.env)).any (·.1)=false:=by rfl)
  (ht:eval (.Call (.Attribute o x apos) (e::es) [] pos) X.env=(do
   let ov <-eval o X.env;standAt apos.atName
   let(f,first) <-holding [ov] (getMethod ov x pl);callWith pos f first (backTo pos (starEach (e::es) X.env)) (backToKw pos (keywordEach [] X.env))):=by rfl) :
  PE X (.Call (.Attribute o x apos) (e::es) [] pos) (dq C x sp [] E ta t):=by
 obtain⟨f,fd,F,b,hm,hc⟩:=C'.ex;exact Vb (pl:=pl) ho hc hm F (hr.mono hk) b .nil hx ha gY dE ht
theorem w4{X:Cx}{C:Addr}{k k':Nat}{x:Str}{ps:List Str}{sp:Sp}{ta:TE}{o:Expr}{pos apos:Pos}{pl:Sem Bool}{E:XK}(C':yk X.prog X.w X.K X.mg X.base k C x ps sp)(hx:wj (CXr X.prog X.w) X E)(hr:Room k' X.A)(hk:k<=k')(ho:PE X o ta)
  (ht:eval (.Call (.Attribute o x apos) [] [] pos) X.env=(do
   let ov <-eval o X.env
   standAt apos.atName
   let(f,first) <-holding [ov] (getMethod ov x pl)
   callWith pos f first (backTo pos (starEach [] X.env)) (backToKw pos (keywordEach [] X.env))):=by rfl) :
  PE X (.Call (.Attribute o x apos) [] [] pos) (dq C x sp [] E ta T8):=by
 obtain⟨f,fd,F,b,hm,hc⟩:=C'.ex;exact Qg (pl:=pl) ho hc hm F (hr.mono hk) b .nil hx ht
end
def F4(K:Frag)(J:Addr)(sp:Sp)(ta:TA)(ts:Addr->TS):TS:=λD σ H=>ta σ H λvs H1=>sp vs H1 (λ_ H2=>D.nx σ H2) λe dx H'=>∃a C,e = .ref a/\H' a=some (exO a C dx false)/\XCls K C/\mroIn K C (.ref J)=some true/\ts a D σ H'
end
section
section
variable {X:Cx}
def Gg(X:Cx)(hs:List ExceptHandler)(pins:List (Addr×Obj))(D:wa):Value->Shared->Prop:=λe s₁=>wpAny (model X.prog X.w) X.A (noteFrame e X.env) (λ_ s₂=>wpAny (model X.prog X.w) X.A (setFlight e none) (λ_ s₃=>wpAny (model X.prog X.w) X.A (handleBy e X.env hs) (SP X pins D) X.xe s₃) X.xe s₂) X.xe s₁
def K7(X:Cx)(pins:List (Addr×Obj))(D:wa):Flow->Shared->Prop:=λf s₁=>match f with|.next=>wpAny (model X.prog X.w) X.A (execs [] X.env) (SP X pins D) X.xe s₁|f=>SP X pins D f s₁
def TB(X:Cx)(hs:List ExceptHandler)(body:List Stmt)(t:TS):Prop:=∀(pins:List (Addr×Obj))(s:Shared)(σ:St)(H:Hp)(D:wa),Inv X pins σ H s->t D σ H ->
 wpAny (model X.prog X.w) X.A (execs body X.env) (K7 X pins D) (Gg X hs pins D) s
theorem Ej{h₀:ExceptHandler}{hs:List ExceptHandler}{body:List Stmt}{t:TS}{pos:Pos}(hb:TB X (h₀ :: hs) body t):PS X (.Try body (h₀ :: hs) [] [] pos) t:=λpins s σ H D I q=>wpAny_Try_except (hb pins s σ H D I q)
theorem F6{hs:List ExceptHandler}{c:Expr}{a b:List Stmt}{tc:TT}{t u:TS}{pos:Pos}(hc:PT X.nox c tc)(ha:TB X hs a t)(hb:TB X hs b u):TB X hs [.If c a b pos] (J1 tc t u):=by
 intro pins s σ H D I h;have cJ:∀{f:Flow}{s':Shared},K7 X pins D f s'->(match f with|.next=>wpAny (model X.prog X.w) X.A (execs [] X.env) (K7 X pins D) (Gg X hs pins D) s'|f=>K7 X pins D f s'):=λ{f s'} q=>by
  cases f with
  |next=>exact wI q
  |brk=>exact q
  |cont=>exact q
  |ret u=>exact q
 refine tF (wpAny_If (yN (hc pins s σ H _ (I.wish _) h) (λd s1 ⟨H1,I1',q1⟩=>?_) λ_ _ z=>z.elim));have I1:=I1'.unwish;cases d with
 |true=>exact yN (ha pins s1 σ H1 D I1 q1) (λf s' q=>cJ q) λ_ _ z=>z
 |false=>exact yN (hb pins s1 σ H1 D I1 q1) (λf s' q=>cJ q) λ_ _ z=>z
def HX(K:Frag)(J:Addr)(i:Nat)(ts:Addr->TS)(D:wa)(σ:St):XK:=λe dx H'=>∃a C,e = .ref a/\H' a=some (exO a C dx false)/\XCls K C/\mroIn K C (.ref J)=some true /\
 ts a { nx:=fun σ' CT=>D.nx (σ'.set i none) CT,rt:=D.rt } (σ.set i (some (.ref a))) H'
theorem Gs{n J:Str}{Ja:Addr}{b₀:Stmt}{jQ:List Stmt}{i:Nat}{ts:Addr->TS}{jp BN:Pos}{pins:List (Addr×Obj)}{s1 s':Shared}{σ:St}{H1:Hp}{D:wa}{ev:Value}(I1:Inv X pins σ H1 s1)(hq:CXr X.prog X.w X.stack H1 s1 (HX X.K Ja i ts D σ) ev s')
  (hJ:X.mg J=some (.ref Ja)) (xJ:XCls X.K Ja) (hs:∀a,PSs (T7 X a) (b₀ :: jQ) (ts a)) (hi:X.N[i]?=some n) (hN:X.N.Nodup) (sW:X.env.scope.names.lookup n=some .local) (hgJ:Gl X J)
  (gY:X.stack=X.env::X.outer) (hfm:X.env.frame=some X.env.locals) (hdJ:(J==("__debug__":Str))=false):Gg X [.ExceptHandler (some (.Name J jp)) (some n) (b₀ :: jQ) BN] pins D ev s':=by
 obtain⟨a,C,dx,H',T,rfl,os,bare,un,hok,ea,hT,hz,Fl,a',C',ee,ea',xc,hmr,hts⟩:=hq;cases ee;obtain⟨oe,ovs,ov,e1,e2,_⟩:=tm hok ea;obtain⟨oe',ovs',ov',e1',e2',_⟩:=tm hok ea';rw[e1]at e1';cases e1';rw[e2]at e2';cases e2';have no:∀b∈([]:List Addr),(b∈X.ex\/X.s₀.heap.objs.size<=b)/\b≠X.env.locals/\(∀x c,X.env.cells.lookup x=some c->c≠b)/\∀p∈X.pn++pins,p.1≠b:=λb z=>absurd z (by simp);have I':=Inv.call' (ch:=[]) I1 os un hok bare no;refine Xb (base:=X.base) (L:=X.env.locals) (gY▸I'.ok.frames) (gY▸I'.stack) hfm Fl (λT v z=>by cases z;rfl) λh1 T1 mD N F1=>o4 (s:={ s' with heap:=h1 }) F1 λh2 k2 F2=>?_;rw[<-gY]at N;have na:∀b,H' b=none->b≠a:=λb q z=>by rw[z,ea]at q;cases q
 have mk:∀h2,(∀b o,b≠T1->h1.get? b=some o->h2.get? b=some o)->Fly h2 a C dx (some (T1,.none))->Inv X pins σ H' { s' with heap:=h2 }:=λh2 k2 F2=>by
  have DD:=og I' ea (λT' v' z=>by cases z;exact hT) N mD k2 F2;rw[X7 ea]at DD;have nT:∀b o,s'.heap.get? b=some o->b≠T1:=λb o e=>zC (zA (zU e) mD);refine Inv.call' (ch:=[]) I1 (s':={ s' with heap:=h2 }) os ⟨λb o e q hb hx=>?_,λb o e q hb hx=>?_,un.free,λb o e hx=>?_,un.tups,un.frzs,un.tbls⟩ DD bare no
  ·have g:=un.keep b o e q hb hx;refine k2 b o (nT b o g) (N.keep b o g hb (na b (un.free b o e q hx)) λT' v' z y=>?_);cases z;exact absurd (zU e) (by rw[y];exact tT.mpr hz)
  ·obtain⟨sl,g⟩:=un.slot b o e q hb hx;obtain⟨CJ,g2⟩:=N.slot b _ g hb;exact⟨CJ,k2 b _ (nT b _ g) g2⟩
  ·obtain⟨o1,g⟩:=un.there b o e hx;obtain⟨o2,g2⟩:=N.there b o1 g;exact⟨o2,k2 b _ (nT b _ g) g2⟩
 have I2:=mk h2 k2 F2;obtain⟨oe2,vs2,g1,g2,g3,g4,g5⟩:=id F2;refine Wk (vt (X:=T7 X a) (Uy I2 a) hgJ hJ ?_ hdJ);refine Gw (K:=X.K) (s:={ s' with heap:=h2 }) I2.kIn xc xJ hmr g1 g2 ⟨rfl,o4 (s:={ s' with heap:=h2 }) F2 λh3 k3 F3=>?_⟩;have I3:=mk h3 (λb o z e=>k3 b o z (k2 b o z e)) F3;refine k8 (X:=T7 X a) (Uy I3 a) hN hi (.inl sW) (v:=.ref a) rfl (λs4 I4=>?_) (.inr sW);refine yN (hs a pins s4 _ H' _ I4 hts) (λf s5 q=>?_) λ_ _ z=>z;cases f with
 |next =>
  obtain⟨σ',CT,I5,q⟩:=q;exact Ux (bv I1.ok I5) hN hi sW λs6 I6=>⟨_,_,I6,q⟩
 |ret u =>
  obtain⟨v,σ',CT,I5,rv,q⟩:=q;exact Ux (bv I1.ok I5) hN hi sW λs6 I6=>⟨v,_,_,I6,rv,q⟩
 |brk=>obtain⟨_,_,_,q⟩:=q;exact q.elim
 |cont=>obtain⟨_,_,_,q⟩:=q;exact q.elim
def F0(K:Frag)(J:Addr)(sp:Sp)(ta:TA)(i:Nat)(ts:Addr->TS):TS:=λD σ H=>ta σ H λvs H1=>sp vs H1 (λ_ H2=>D.nx σ H2) (HX K J i ts D σ)
def B5(K:Frag)(J:Addr)(j:Nat)(sp:Sp)(ta:TA)(i:Nat)(ts:Addr->TS):TS:=λD σ H=>ta σ H λvs H1=>sp vs H1 (λv H2=>D.nx (sv σ j v) H2) (HX K J i ts D σ)
theorem Vw{x n J:Str}{Ja:Addr}{e:Expr}{es:List Expr}{b₀:Stmt}{jQ:List Stmt}{i k k':Nat}{ps:List Str}{sp:Sp}{ta:TA}{ts:Addr->TS}{p pos VM jp BN:Pos}(C:yu X.prog X.w X.K X.mg X.base k x ps sp)(hr:Room k' X.A)(hk:k<=k')(ha:PA X.nox (e::es) ta)
  (hJ:X.mg J=some (.ref Ja)) (xJ:XCls X.K Ja) (hs:∀a,PSs (T7 X a) (b₀ :: jQ) (ts a)) (hi:X.N[i]?=some n) (hN:X.N.Nodup) (sW:X.env.scope.names.lookup n=some .local:=by rfl) (hg:Gl X x:=by rfl) (hgJ:Gl X J:=by rfl)
  (gY:X.stack=X.env::X.outer:=by rfl) (hfm:X.env.frame=some X.env.locals:=by rfl) (hsw:swapsWith (.Call (.Name x p) (e::es) [] pos) none VM.line X.env=pure false:=by rfl)
  (kH:(x==("__debug__":Str))=false:=by decide) (hdJ:(J==("__debug__":Str))=false:=by decide) (he:starEach (e::es) X.env=(false,eval e X.env)::starEach es X.env:=by rfl) (dE:(backTo pos (starEach es X.env)).any (·.1)=false:=by rfl) :
  TB X [.ExceptHandler (some (.Name J jp)) (some n) (b₀ :: jQ) BN] [.Expr (.Call (.Name x p) (e::es) [] pos) VM] (F0 X.K Ja sp ta i ts):=by
 intro pins s σ H D I h;obtain⟨f,fd,F,b,hm,hkp⟩:=C.ex;refine tF (wpAny_Expr_any (xA (vt I hg hm ?_ kH)) I.quiet hsw);refine vZ (h₀:=X.base) I.ok.mod.kin hkp (yN (ha pos pins s σ H _ (I.wish _) h) (λus s1 ⟨vs,H1,I1',r,q⟩=>⟨I1'.kIn,?_⟩) λ_ _ z=>z.elim) he dE;have I1:=I1'.unwish;have hl:(us++[]).length=ps.length:=by rw[List.append_nil];exact r.length.symm.trans (F.len _ _ _ _ q)
 have hb:=b s1 us I1.kIn hl;rw[List.append_nil]at hb;refine tU (vP (F.run X.A X.stack s1 H1 ⟨us,[]⟩ us vs _ _ (hr.mono hk) I1.env0 hb r q) λr s' hq=>?_);cases r with
 |ok fl =>
  cases fl with
  |ret u =>
   obtain⟨v,H2,I2,rv,q2⟩:=I1.after hq;exact wI (wI (show SP X pins D .next s' from⟨σ,H2,I2,q2⟩))
  |next=>exact False.elim hq
  |brk=>exact False.elim hq
  |cont=>exact False.elim hq
 |error ev=>exact Gs I1 hq hJ xJ hs hi hN sW hgJ gY hfm hdJ
end
end
section
section
variable {X:Cx}
def A1(K:W.Frag)(n:Nat)(t:TGs):TG:=λv σ H Q=>∃a xs,v = .ref a/\SqL K H a xs/\xs.length=n/\t xs σ H Q
theorem Qi{es:List Expr}{k:Nat}{t:TGs}{n:Nat}{pos:Pos}(hc:X.calm=true)(h:PGs X es t)
  (hn:(assignEach es X.env).length=n:=by rfl) (gY:(assignEach es X.env).findIdx? (·.1)=none:=by rfl):PG X (.Tuple es k pos) (A1 X.K n t):=by
 intro pins s σ H v u Q I r hw;obtain⟨a,xs,e1,hq,hl,hw⟩:=hw;subst e1;cases r;obtain⟨aJ,rv,⟨o,m,e,c,_,d⟩,hz⟩:=I.list hq;have ht:s.heap.IsList a aJ.toArray:=⟨o,e,c,m,d⟩
 rw[assign_Tuple];refine zZ (wpAny_standAt ?_);unfold unpack;rw[hn,gY,show n=aJ.toArray.size by simp[<-hl,rv.length]];refine zZ (xD (kun_itemsOf (I.ok.hd hc) ht λh' hx=>?_));have I1:Inv X pins σ H { s with heap:=h' }:=I.kept (t':=s.toks) λb o e=>hx b o (zC (zU e)) e;exact h pins _ σ H xs _ Q I1 (by simpa using rv) hw
def Db(K:W.Frag)(i j:Nat):TG:=λv σ H Q=>∃a x y,v = .ref a/\SqL K H a [x,y]/\Q (sv (sv σ i x) j y) H
def Dc(K:W.Frag)(i j l:Nat):TG:=λv σ H Q=>∃a x y z,v = .ref a/\SqL K H a [x,y,z]/\Q (sv (sv (sv σ i x) j y) l z) H
theorem Hu(i j:Nat){x y:Str}{p p' pos:Pos}{k:Nat}(hc:X.calm=true)(hN:X.N.Nodup)(hi:X.N[i]?=some x:=by rfl)(hj:X.N[j]?=some y:=by rfl)(hx:Loc X.env.scope x:=by first|exact Or.inl rfl|exact Or.inr rfl)(hy:Loc X.env.scope y:=by first|exact Or.inl rfl|exact Or.inr rfl)
  (hf:X.fn x=true\/X.env.scope.names.lookup x=some .local:=by first|exact .inl rfl|exact .inr rfl) (UY:X.fn y=true\/X.env.scope.names.lookup y=some .local:=by first|exact .inl rfl|exact .inr rfl)
  (hn:(assignEach [.Name x p,.Name y p'] X.env).length=2:=by rfl) (gY:(assignEach [.Name x p,.Name y p'] X.env).findIdx? (·.1)=none:=by rfl)
  (hs:(assignEach [.Name x p,.Name y p'] X.env).map (·.2)=assign (.Name x p) X.env::(assignEach [.Name y p'] X.env).map (·.2):=by rfl) (CL:(assignEach [.Name y p'] X.env).map (·.2)=assign (.Name y p') X.env::(assignEach [] X.env).map (·.2):=by rfl) :
  PG X (.Tuple [.Name x p,.Name y p'] k pos) (Db X.K i j):=by
 intro pins s σ H v u Q I r h;obtain⟨a,x1,y1,rfl,hq,q⟩:=h;exact Qi hc (vq (ve i hN hi hx hf) (vq (ve j hN hj hy UY) af CL) hs) hn gY pins s σ H _ u Q I r ⟨a,_,rfl,hq,rfl,x1,_,rfl,y1,_,rfl,rfl,q⟩
theorem Pi(i j l:Nat){x y z:Str}{p p' CV pos:Pos}{k:Nat}(hc:X.calm=true)(hN:X.N.Nodup)(hi:X.N[i]?=some x:=by rfl)(hj:X.N[j]?=some y:=by rfl)(hl:X.N[l]?=some z:=by rfl)(hx:Loc X.env.scope x:=by first|exact Or.inl rfl|exact Or.inr rfl)(hy:Loc X.env.scope y:=by first|exact Or.inl rfl|exact Or.inr rfl)(hz:Loc X.env.scope z:=by first|exact Or.inl rfl|exact Or.inr rfl)
  (hf:X.fn x=true\/X.env.scope.names.lookup x=some .local:=by first|exact .inl rfl|exact .inr rfl) (UY:X.fn y=true\/X.env.scope.names.lookup y=some .local:=by first|exact .inl rfl|exact .inr rfl) (hf'':X.fn z=true\/X.env.scope.names.lookup z=some .local:=by first|exact .inl rfl|exact .inr rfl)
  (hn:(assignEach [.Name x p,.Name y p',.Name z CV] X.env).length=3:=by rfl) (gY:(assignEach [.Name x p,.Name y p',.Name z CV] X.env).findIdx? (·.1)=none:=by rfl)
  (hs:(assignEach [.Name x p,.Name y p',.Name z CV] X.env).map (·.2)=assign (.Name x p) X.env::(assignEach [.Name y p',.Name z CV] X.env).map (·.2):=by rfl) (CL:(assignEach [.Name y p',.Name z CV] X.env).map (·.2)=assign (.Name y p') X.env::(assignEach [.Name z CV] X.env).map (·.2):=by rfl) (GZ:(assignEach [.Name z CV] X.env).map (·.2)=assign (.Name z CV) X.env::(assignEach [] X.env).map (·.2):=by rfl) :
  PG X (.Tuple [.Name x p,.Name y p',.Name z CV] k pos) (Dc X.K i j l):=by
 intro pins s σ H v u Q I r h;obtain⟨a,x1,y1,z1,rfl,hq,q⟩:=h;exact Qi hc (vq (ve i hN hi hx hf) (vq (ve j hN hj hy UY) (vq (ve l hN hl hz hf'') af GZ) CL) hs) hn gY pins s σ H _ u Q I r ⟨a,_,rfl,hq,rfl,x1,_,rfl,y1,_,rfl,z1,_,rfl,rfl,q⟩
end
end
end My
namespace Kx
open PySem PySem.Spec L2 My
open PyProof.Rows hiding St
def top(i:Nat):Stmt:=PySem.Challenge.pw_manyjudges_k62_no_text.main.body.getD i (.Pass ⟨0,0,0,0⟩)
theorem Fh{t u:TS}{D:wa}{σ:L2.St}{H:Hp}(h:t { D with nx:=u D } σ H):Zm t u D σ H:=h
end Kx
namespace Kx
open PySem PySem.Spec L2 My
open PyProof.Rows hiding St
local macro_rules|`(tactic| walk_at "r1")=>`(tactic| first|dsimp only[J1,F0,B5,HX,Dc,Db,F5,Ko,Rl,K5,Kv,Fw,X1,Df,K6,tFr,Fu,Cz,F4,Fv,dq,Fg,Rk,J2,J4,K4,Jz,Ft,mV,gv,sv,Dk,mG,tOp,tC,np,T8,dn,tCB,Kq,Vv,tSl,Dp,Dg,mB,Km,Dj,Kp,Fs,tOr,Fx,tIf,mBM,Bg,Cy,iR1,iEn,Dm,Hk,Pc,Rj,iR2,Mi,iR3,Mj,iZt,Ml,iZp,Ig,E8,Ji,Mh,P5,P6,Ie,Iw,Iy,Ix,Bv,Eu,Ep,Eo,Et,Jd,Jb,Iz,Jc,I0,Er,E1,Ez,Bw,Ey,Ex,E7,E6,Jh,Jg,Qq,Mw,Ew,Em,Je,E4,E2,E3,Ev,En,Bu,Bm,tSS,Bx,Jf,tFC,tF0,tFv,tJn,P7,Fy,Fz,Jj,Ya,dr,mDN,Np,A3,E5,mG2,List.map_cons,List.map_nil,id,Ap,Al,decide_true,decide_false,Bool.not_true,Bool.not_false,if_true,if_false,ite_true,ite_false,reduceIte]|simp only[List.map_cons,List.map_nil,w01,w02,w03,w04,w10,w12,w13,w14,w20,w21,w23,w24,w30,w31,w32,w34,w40,w41,w42,w43,List.append_nil,decide_true,decide_false,Bool.not_true,Bool.not_false,if_true,if_false,Bool.false_eq_true,ite_true,ite_false,reduceIte])
local macro_rules|`(tactic| walk_at "rd")=>`(tactic| (repeat(first|dsimp only[Zm,Rm]|walk_at "r1"));try dsimp only)
local macro_rules|`(tactic| walk_at "rs")=>`(tactic| (repeat(walk_at "r1"));try dsimp only)
local macro_rules|`(tactic| walk_at "rp")=>`(tactic| (repeat(first|with_reducible refine Fh ?_|dsimp only[Rm]|walk_at "r1"));try dsimp only)
section
variable {P:Program}{w:World}{K:W.Frag}{mg:Str->Option Value}{base:Heap}
def Fq(K:W.Frag)(n:Nat):Sp:=λvs H Q _=>∃(v:V)(h:Addr)(s:Say)(hs:List Str),vs=[v,.ref h]/\SayAt K H v s/\s.pieces<=n/\SqT K H h (hs.map V.str)/\Q (.bl (s.so hs)) H
theorem sc_is_so:zm ["saying","held","kind","one","other"] ["saying","held"] (zy (top 11)):=⟨rfl,rfl,rfl,by decide +kernel,rfl,by decide +kernel,by decide +kernel⟩
theorem Y5(D:Def K mg "is_so" (top 11) ["saying","held"]):∀n:Nat,zh P w K mg base n "is_so" ["saying","held"] (Fq K n)
 |0=>v7 D λvs H Q E h=>by
  obtain⟨v,h,s,hs,_,_,hp,_⟩:=h;exact absurd s.pieces_pos (by lia)
 |n+1=>by
  have jM:=Y5 D n;refine D.callee sc_is_so (λvs H Q E h=>?_) λf cdv A outer s H vs Q E hr h=>?_
  ·obtain⟨v,h,s,hs,rfl,_⟩:=h
   rfl
  have nd:=sc_is_so.nd;obtain⟨v,h,s,hs,rfl,hv,hp,hh,q⟩:=h;refine⟨[some v,some (.ref h),none,none,none],_,rfl,(zz (zn 2 nd (vy (z8 0) zv (λ_ _=>rfl)))
  (zz (za (zc (wb hr.units) (z8 2) z7 (ze _)) (zx (zk (va Hs (vy (z8 0) zv (λ_ _=>rfl)) (z8 1) (by with_unfolding_all rfl)))) zi)
  (zz (za (zc (wb hr.units) (z8 2) z7 (ze _)) (zx (zk (Pf (zg jM hr (by lia) (z9 (vy (z8 0) zv (λ_ _=>rfl)) (z9 (z8 1) z4)))))) zi)
  (zz (zn 3 nd (zg jM hr (by lia) (z9 (vy (z8 0) zv (λ_ _=>rfl)) (z9 (z8 1) z4))))
  (zz (zn 4 nd (zg jM hr (by lia) (z9 (vy (z8 0) zv (λ_ _=>rfl)) (z9 (z8 1) z4))))
  (zz (za (zc (wb hr.units) (z8 2) z7 (ze _)) (zx (zk (ce (z8 3) (p0 (z8 4))))) zi)
  (zz (za (zc (wb hr.units) (z8 2) z7 (ze _)) (zx (zk (Dx (z8 3) (p0 (z8 4))))) zi)
  (zx (zk (Dx (Pf (z8 3)) (p0 (z8 4)))))))))))),?_⟩
  cases s with
  |letter x =>
   obtain⟨a,rfl,ha⟩:=hv;walk_at"rp";refine⟨_,_,.inr ha,rfl,?_⟩;walk_at"rp";refine⟨_,_,.inr ha,rfl,?_⟩;walk_at"rp";refine⟨_,.inr hh,rfl,N8 hs,?_⟩;rw[Z6];exact q
  |neg t =>
   obtain⟨a,u,rfl,ha,ht⟩:=hv;walk_at"rp";refine⟨_,_,.inr ha,rfl,?_⟩;walk_at"rp";refine⟨_,_,.inr ha,rfl,?_⟩;walk_at"rp";exact⟨u,h,t,hs,rfl,ht,by have:=hp;simp only[Say.pieces]at this;lia,hh,q⟩
  |bin o t t' =>
   obtain⟨a,u,u',rfl,ha,ht,DB⟩:=hv;have p1:t.pieces<=n/\t'.pieces<=n:=by have:=hp;simp only[Say.pieces]at this;lia
   cases o <;>
   ·dsimp only[Op2.word]at ha;walk_at"rp";refine⟨_,_,.inr ha,rfl,?_⟩;walk_at"rp";refine⟨_,_,.inr ha,rfl,?_⟩;walk_at"rp";refine⟨u,h,t,hs,rfl,ht,p1.1,hh,?_⟩;refine⟨_,_,.inr ha,rfl,?_⟩;refine⟨u',h,t',hs,rfl,DB,p1.2,hh,?_⟩;walk_at"rp";simp only[Say.so,Op2.so]at q;cases e:Say.so hs t<;>rw[e]at q<;>simpa using q
theorem Um{ns:List Int}{k:Int}(h0:0<=k)(h:k<(ns.length:Int)):∃v:Int,atI (ns.map V.int) k=some (.int v):=by
 have hk:k.toNat<ns.length:=by lia
 have ek:k=((k.toNat:Nat):Int):=by lia
 have e:atI (ns.map V.int) ((k.toNat:Nat):Int)=some (.int ns[k.toNat]):=lr (by rw[yI,yG hk]<;>rfl);rw[<-ek]at e;exact⟨_,e⟩
theorem tf{α:Type}{xs:List α}{k:Int}(h0:0<=k)(h:k<(xs.length:Int)):∃v,v∈xs/\atI xs k=some v:=by
 have hk:k.toNat<xs.length:=by lia
 have ek:k=((k.toNat:Nat):Int):=by lia
 have e:atI xs ((k.toNat:Nat):Int)=some xs[k.toNat]:=lr (yG hk);rw[<-ek]at e;exact⟨_,wC hk,e⟩
theorem cm{i j:Int}(h:-(2 ^ 64)<i/\i<2 ^ 64):CMul i j:=.inl h
theorem cm2{i j:Int}(h:-(2 ^ 64)<j/\j<2 ^ 64):CMul i j:=.inr h
def Q7(K:W.Frag):Sp:=λvs H Q _=>∃(a:Addr)(ns:List Int)(k:Int),vs=[.ref a,.int k]/\SqL K H a (ns.map V.int)/\ns.length<=5000/\0<=k/\k<=100000/\∀r:Int,Q (.int r) H
theorem sc_cell:zm ["_law_script","_law_k","_law_number"] ["_law_script","_law_k"] (zy (top 40)):=⟨rfl,rfl,rfl,by decide +kernel,rfl,by decide +kernel,by decide +kernel⟩
theorem L8(D:Def K mg "_law_cell" (top 40) ["_law_script","_law_k"])(aD:mg "len"=none):zh P w K mg base 1 "_law_cell" ["_law_script","_law_k"] (Q7 K):=by
 refine D.callee sc_cell (λvs H Q E h=>?_) λf cdv A outer s H vs Q E hr h=>?_
 ·obtain⟨a,ns,k,rfl,_⟩:=h
  rfl
 have nd:=sc_cell.nd;obtain⟨a,ns,k,rfl,hS,pA,h0,hk,q⟩:=h;refine⟨[some (.ref a),some (.int k),none],_,rfl,(zz (za (zc S6 (z8 1) (zq ya rfl aD yp (z9 (z8 0) z4)) (ze _)) (zx (zk (vy (z8 0) (z8 1) (λ_ _=>rfl)))) zi)
  (zz (zn 2 nd (z6 z5 (z6 r9 (z8 1) zv) zv))
  (zz (za (zc W2 (zq ya rfl aD yp (z9 (z8 0) z4)) zv (ze _)) (zx (zn 2 nd (z6 z5 (z6 z5 (z6 r9 (z6 vk (vy (z8 0) (z6 vk (z8 1) (zq ya rfl aD yp (z9 (z8 0) z4))) (λ_ _=>rfl)) zv) zv) (z6 r9 (z6 r9 (z8 1) (z8 1)) zv)) zv))) zi)
  (zx (zk (z6 vk (z6 r9 (z8 2) (z8 2)) zv)))))),?_⟩
 walk_at"rp";refine⟨_,.inl hS,?_⟩;rw[zV];have hkk:k*k<=100000*100000:=Int.mul_le_mul hk hk h0 (by decide);have hkn:0<=k*k:=Int.mul_nonneg h0 h0;refine xi (λc=>?_) (λc=>?_)
 ·obtain⟨v,e⟩:=Um h0 (zF c);exact⟨_,_,.inl hS,e,q v⟩
 ·refine⟨cm2 (by lia),_,.inl hS,?_⟩;rw[zV];refine xi (λd=>?_) (λd=>?_)
  ·have d':(0:Int)<(ns.length:Int):=zF d;refine⟨_,.inl hS,?_⟩;rw[zV];obtain⟨v,e⟩:=Um (ns:=ns) (k:=k % (ns.length:Int)) (wP _ (by lia)) (wZ _ d');refine⟨d',_,_,.inl hS,e,?_⟩;walk_at"rp";exact⟨by decide,cm2 (by lia),cm (by lia),cm (by lia),cm (by lia),by decide,q _⟩
  ·walk_at"rp";exact⟨cm (by lia),by decide,q _⟩
def k6(K:W.Frag):Sp:=λvs H Q _=>∃(a:Addr)(ns:List Int)(k m:Int),vs=[.ref a,.int k,.int m]/\SqL K H a (ns.map V.int)/\ns.length<=5000/\0<=k/\k<=100000/\0<m/\∀r:Int,0<=r->r<m->Q (.int r) H
theorem sc_pick:zm ["_law_script","_law_k","_law_many","_law_number"] ["_law_script","_law_k","_law_many"] (zy (top 41)):=⟨rfl,rfl,rfl,by decide +kernel,rfl,by decide +kernel,by decide +kernel⟩
theorem Ma(D:Def K mg "_law_pick" (top 41) ["_law_script","_law_k","_law_many"])(rT:zh P w K mg base 1 "_law_cell" ["_law_script","_law_k"] (Q7 K)):zh P w K mg base 2 "_law_pick" ["_law_script","_law_k","_law_many"] (k6 K):=by
 refine D.callee sc_pick (λvs H Q E h=>?_) λf cdv A outer s H vs Q E hr h=>?_
 ·obtain⟨a,ns,k,m,rfl,_⟩:=h
  rfl
 have nd:=sc_pick.nd;obtain⟨a,ns,k,m,rfl,hS,pA,h0,hk,hm,q⟩:=h;refine⟨[some (.ref a),some (.int k),some (.int m),none],_,rfl,(zz (zn 3 nd (z6 z5 (z6 r9 (z6 vk (zg rT hr (by lia) (z9 (z8 0) (z9 (z8 1) z4))) zv) (z6 z5 zv (z6 r9 zv (z8 1)))) (z6 r9 zv (z8 1))))
  (zx (zk (z6 vk (z6 Pe (z6 vk (z8 3) zv) zv) (z8 2))))),?_⟩
 walk_at"rp";refine⟨a,ns,k,rfl,hS,pA,h0,hk,λr=>?_⟩;walk_at"rp";exact⟨by decide,cm (by lia),cm (by lia),cm (by lia),by decide,⟨by decide,by decide⟩,hm,q _ (wP _ (by lia)) (wZ _ hm)⟩
theorem zt{n:Nat}(h:n<=1000):n<=sizeLine:=xO (ri h)
def lit(s:String):List Nat:=(Str.ofString s).cps.toList
def nx(x:List Nat)(p:Nat)(y:List Nat):Bool:=y.isPrefixOf (x.drop p)
def Xy:List Nat:=lit "abcdefghijklmnopqrstuvwxyz"
def small(c:Nat):Bool:=decide (c∈Xy)
def wordsL:List Str:=[Str.ofString "not",Str.ofString "and",Str.ofString "or",Str.ofString "if",Str.ofString "then",Str.ofString "say",Str.ofString "judge"]
def yt(x:List Nat)(p:Nat):List Nat:=(x.drop p).takeWhile small
def vn(n:List Nat):Bool:=!decide (n=[])&&(!decide (6<n.length)&&!decide ((⟨n.toArray⟩:Str)∈wordsL))
abbrev PR:=Option (Say×Nat×Nat)
def cq(x:List Nat)(r p:Nat):PR:=if vn (yt x p)=true then some (.letter ⟨(yt x p).toArray⟩,r,p+(yt x p).length)else none
def ql(x:List Nat)(o:Op2)(t1:Say):PR->PR
 |some (t2,r2,p2)=>if nx x p2 (lit ")")=true then some (.bin o t1 t2,r2,p2+1)else none
 |none=>none
def pIf(x:List Nat)(JO:Nat->Nat->PR)(r p:Nat):PR:=match JO r (p+4)with
 |some (t1,r1,p1)=>if nx x p1 (lit " then ")=true then ql x .imp t1 (JO r1 (p1+6))else none
 |none=>none
def se(x:List Nat)(JO:Nat->Nat->PR)(r p:Nat):PR:=match JO r (p+1)with
 |some (t1,r1,p1)=>if nx x p1 (lit " and ")=true then ql x .con t1 (JO r1 (p1+5))else if nx x p1 (lit " or ")=true then ql x .dis t1 (JO r1 (p1+4))else none
 |none=>none
def Qa:PR->PR
 |some (t,r,p)=>some (.neg t,r,p)
 |none=>none
def yz(x:List Nat):Nat->Nat->Nat->PR
 |0,_,_=>none
 |_+1,0,_=>none
 |f+1,r+1,p=>if nx x p (lit "not ")=true then Qa (yz x f r (p+4))else if nx x p (lit "(if ")=true then pIf x (yz x f) r p else if nx x p (lit "(")=true then se x (yz x f) r p else cq x r p
structure xf(x:Str):Prop where
 len:x.length<=100000
 cps:∀c∈x.cps.toList,c<16 ^ 8
def rdI(x:Str)(i j:Int):List (Str×V):=[("text",.str x),("place",.int i),("pieces",.int j)]
abbrev rdF(x:Str)(p n:Nat):List (Str×V):=rdI x (p:Int) (n:Int)
def SameA(o:Addr)(H H':Hp):Prop:=∀b u,b≠o->H b=some u->H' b=some u
theorem SameA.refl(o:Addr)(H:Hp):SameA o H H:=λ_ _ _ e=>e
theorem SameA.trans{o:Addr}{H H1 H2:Hp}(a:SameA o H H1)(b:SameA o H1 H2):SameA o H H2:=λc u h e=>b c u h (a c u h e)
theorem SameA.of{o:Addr}{H H':Hp}(s:Same H H'):SameA o H H':=λb u _ e=>s b u e
theorem SameA.upd(o:Addr)(H:Hp)(u:HO):SameA o H (upd H o u):=λb v h e=>by rw[zj h];exact e
theorem SameA.tups{o C dx:Addr}{fs:List (Str×V)}{H H':Hp}(s:SameA o H H')(h:H o=some (.ins C dx fs)):Tups H H' :=
 ⟨λb xs e=>s b _ (λz=>by rw[z,h]at e;cases e) e,λb u v e=>s b _ (λz=>by rw[z,h]at e;cases e) e⟩
def NoE(Cn o:Addr)(H:Hp)(E:XK):Prop:=∀(a:Addr)(H':Hp),SameA o H H'->H' a=some (exO a Cn none false)->E (.ref a) none H'
theorem NoE.mono{Cn o:Addr}{H H':Hp}{E:XK}(s:SameA o H H')(h:NoE Cn o H E):NoE Cn o H' E:=λa H2 s2 e=>h a H2 (s.trans s2) e
theorem Tc{Cn o a:Addr}{H H1:Hp}{E:XK}(h:NoE Cn o H E)(s:SameA o H H1)(na:H1 a=none):E (.ref a) none (upd (upd H1 a (exO a Cn none true)) a (exO a Cn none false)):=by
 refine h a _ (λb u hb e=>?_) zu;have KE:b≠a:=λz=>by
  have:=s b u hb e;rw[z,na]at this;cases this
 rw[zj KE,zj KE];exact s b u hb e
theorem Xs{Cn o:Addr}{H H1:Hp}{E:XK}(x0:v9 K Cn)(h:NoE Cn o H E)(s:SameA o H H1):∀a,H1 a=none->∃oV C dx,V.ref a=V.ref oV/\upd H1 a (exO a Cn none true) oV=some (exO oV C dx true)/\XCls K C/\E (Value.ref oV) dx (upd (upd H1 a (exO a Cn none true)) oV (exO oV C dx false)):=λa na=>⟨a,Cn,none,rfl,zu,x0.x,Tc h s na⟩
theorem qs(x:Str):(Str.empty++x).length=x.length:=by
 show(#[]++x.cps).size=_;rw[tJ];exact sX _
theorem ym(x:Str):x.cps.toList.length=x.length:=by simp[Str.length]
theorem vo{x y:List Nat}{p:Nat}(hp:p<=x.length)(h:nx x p y=true):p+y.length<=x.length:=by
 have h1:=(yP.mp h).length_le;rw[xY]at h1;lia
theorem Ri{x y:Str}{p:Nat}(hp:p<=x.length):Txt.startswith3 x y (p:Int)=nx x.cps.toList p y.cps.toList:=by
 have e:fromIndex x.length (p:Int)=p:=by unfold fromIndex;rw[zM (by lia)];lia
 unfold Txt.startswith3;rw[e,StrLaws.subAt_eq,vC,yY];unfold nx;have hx:=ym x;have hy:=ym y;constructor
 ·rintro⟨h1,h2⟩;have rA:=eq_of_beq h2;rw[yP,<-rA,<-hy];exact List.take_prefix _ _
 ·intro h;have oZ:=yP.mp h;have h1:=oZ.length_le;rw[xY]at h1;refine⟨zI (by lia),wM.mpr ?_⟩;rw[<-hy];exact(List.prefix_iff_eq_take.mp oZ).symm
theorem cs{x:Str}{i j k:Int}:sk (Str.ofString "place") (.int k) (rdI x i j)=rdI x k j:=rfl
theorem Xq{x:Str}{i j k:Int}:sk (Str.ofString "pieces") (.int k) (rdI x i j)=rdI x i k:=rfl
structure RdC(K:W.Frag)(C:Addr):Prop where
 cl:Cls K C
 t:NoAttr K C "text"
 p:NoAttr K C "place"
 n:NoAttr K C "pieces"
def a8(C:Addr):Sp:=λvs H Q _=>∃(o dx:Addr)(x y:Str)(p n:Nat),vs=[.ref o,.str y]/\H o=some (.ins C dx (rdF x p n))/\p<=x.length/\Q (.bl (nx x.cps.toList p y.cps.toList)) H
theorem sc_next:zm ["self","signs"] ["self","signs"] (zy (zb (top 34) 1)):=⟨rfl,rfl,rfl,by decide +kernel,rfl,by decide +kernel,by decide +kernel⟩
theorem Th{C:Addr}(D:DefM K C "is_next" "Reading.is_next" (zb (top 34) 1) ["self","signs"])(rc:RdC K C):qo P w K mg base 1 C "is_next" ["self","signs"] (a8 C):=by
 refine D.callee sc_next (λvs H Q E h=>?_) λf cdv A outer s H vs Q E hr h=>?_
 ·obtain⟨o,dx,x,y,p,n,rfl,_⟩:=h
  rfl
 have nd:=sc_next.nd;obtain⟨o,dx,x,y,p,n,rfl,ho,hp,q⟩:=h;refine⟨[some (.ref o),some (.str y)],_,rfl,(zx (zk (S7 (w8 (z8 0) rfl) (z9 (z8 1) (z9 (w8 (z8 0) rfl) z4))))),?_⟩;walk_at"rp";refine⟨o,C,dx,_,_,rfl,ho,rc.cl,rc.t,rfl,?_⟩;walk_at"rp";refine⟨o,C,dx,_,_,rfl,ho,rc.cl,rc.p,rfl,?_⟩;walk_at"rp";refine⟨y,_,rfl,?_⟩;rw[Ri hp];exact q
def Ch(y:Str):Prop:=y.length<=100/\∀c∈y.cps.toList,c<16 ^ 8
def ba(C Cn:Addr):Sp:=λvs H Q E=>∃(o dx:Addr)(x y:Str)(p n:Nat),vs=[.ref o,.str y]/\H o=some (.ins C dx (rdF x p n))/\p<=x.length/\Ch y/\(nx x.cps.toList p y.cps.toList=true->∀H',SameA o H H'->H' o=some (.ins C dx (rdF x (p+y.length) n))->Q .non H')/\(nx x.cps.toList p y.cps.toList=false->NoE Cn o H E)
theorem sc_skip:zm ["self","signs"] ["self","signs"] (zy (zb (top 34) 2)):=⟨rfl,rfl,rfl,by decide +kernel,rfl,by decide +kernel,by decide +kernel⟩
theorem Pk:(Str.ofString " is missing").length=11:=by decide +kernel
theorem Xa:(Str.ofString " is no name").length=11:=by decide +kernel
theorem Nn(x y:Str):(x++y).length=x.length+y.length:=by
 show(x.cps++y.cps).size=_;exact tJ
theorem Md{C Cn:Addr}(D:DefM K C "skip" "Reading.skip" (zb (top 34) 2) ["self","signs"])(rc:RdC K C)(aL:qo P w K mg base 1 C "is_next" ["self","signs"] (a8 C))(aC:v9 K Cn)(aF:mg "NoText"=some (.ref Cn))(aD:mg "len"=none):yk P w K mg base 2 C "skip" ["self","signs"] (ba C Cn):=by
 refine D.calleeX sc_skip (λvs H Q E h=>?_) λf cdv A outer s H vs Q E hr h=>?_
 ·obtain⟨o,dx,x,y,p,n,rfl,_⟩:=h
  rfl
 have nd:=sc_skip.nd;obtain⟨o,dx,x,y,p,n,rfl,ho,hp,hy,qy,qn⟩:=h;refine⟨[some (.ref o),some (.str y)],_,rfl,(zz (za (wu (xw (j7 aL hr (by lia) (z8 0) (z9 (z8 1) z4)))) (zx (yr (xt aC aF (z9 (W1 (uc (cr (z8 1)) (uc z7 Xm))) z4)) xm rfl)) zi)
  (zx (oi (z8 0) (z6 z5 (w8 (z8 0) rfl) (zq ya rfl aD yp (z9 (z8 1) z4))) rfl))),?_⟩
 walk_at"rp";refine⟨o,dx,_,rfl,ho,rfl,?_⟩;walk_at"rp";refine⟨o,dx,x,y,p,n,rfl,ho,hp,?_⟩;cases hb:nx x.cps.toList p y.cps.toList with
 |false =>
  walk_at"rp";have JT:=StrLaws.reprText_len y hy.2;have h1:=hy.1;refine⟨by rw[yZ];lia,?_⟩;walk_at"rp";have hm:=Pk;refine⟨by rw[qs,yZ];lia,by rw[Nn,qs,yZ];lia,by rw[Nn,qs,yZ];lia,zt (by simp),Xs aC (qn hb) (SameA.refl _ _)⟩
 |true =>
  walk_at"rp";refine⟨o,C,dx,_,_,rfl,ho,rc.cl,rc.p,rfl,?_⟩;walk_at"rp";refine⟨by rw[yZ];have:=hy.1;lia,o,C,dx,_,rfl,ho,rc.cl,rc.p,(show(3:Nat)<1000 by decide),?_⟩;rw[cs,<-Int.natCast_add];exact qy hb _ (SameA.upd _ _ _) zu
theorem F7{x:List Nat}{p i:Nat}(h:i<(yt x p).length):∃c,x[p+i]?=some c/\small c=true:=by
 have h1:=uU (l:=x.drop p) small;obtain⟨t,ht⟩:=h1;have e:(x.drop p)[i]?=some (yt x p)[i]:=by
  rw[<-ht];show((yt x p)++t)[i]?=_;rw[wW h,yG h]
 rw[vD]at e;exact⟨_,e,(yS.mp (List.all_takeWhile (p:=small) (l:=x.drop p))) _ (wC h)⟩
theorem J5{x:List Nat}{p c:Nat}(h:x[p+(yt x p).length]?=some c):small c=false:=by
 unfold yt at h;rw[<-vD]at h;generalize x.drop p=s at h
 induction s with
 |nil=>simp at h
 |cons a s ih =>
  rw[xP]at h;cases ha:small a with
  |true =>
   rw[ha,zG rfl,yL,List.getElem?_cons_succ]at h;exact ih h
  |false =>
   rw[ha,zM (by decide),wH,List.getElem?_cons_zero]at h;cases h;exact ha
theorem Pm{x:List Nat}{p:Nat}(hp:p<=x.length):p+(yt x p).length<=x.length:=by
 have:=(uU (l:=x.drop p) small).length_le;rw[xY]at this;unfold yt;lia
theorem Pn{x:Str}{p:Nat}(hp:p<=x.length):Txt.slice x (some (p:Int)) (some ((p+(yt x.cps.toList p).length:Nat):Int))=⟨(yt x.cps.toList p).toArray⟩:=by
 have h1:=Pm (x:=x.cps.toList) (by rw[ym];exact hp);rw[ym]at h1;rw[wM.mp (slice_closesL (by lia) (by lia) (by lia))]
 congr 2
 rw[wR,show(((p+(yt x.cps.toList p).length:Nat):Int)-(p:Int)).toNat=(yt x.cps.toList p).length by lia];exact(List.prefix_iff_eq_take.mp (uU (l:=x.cps.toList.drop p) small)).symm
theorem str_nil{n:List Nat}:((⟨n.toArray⟩:Str)=Str.ofString "")↔n=[]:=by
 constructor
 ·intro h;have h2:=xH (λz:Str=>z.cps.toList) h;have h3:(Str.ofString "").cps.toList=[]:=by decide +kernel
  rw[h3]at h2;simpa using h2
 ·intro h;subst h
  decide +kernel
theorem M9{t u:TS}{D:wa}{σ:L2.St}{H:Hp}(C:L2.St->Hp->Prop)(h1:∀N:L2.St->Hp->Prop,(∀σ' H',C σ' H'->N σ' H')->t { D with nx:=N } σ H)(h2:∀σ' H',C σ' H'->u D σ' H'):Zm t u D σ H:=h1 (u D) h2
def Vs(C Cn:Addr):Sp:=λvs H Q E=>∃(o dx:Addr)(x:Str)(p n:Nat),vs=[.ref o]/\H o=some (.ins C dx (rdF x p n))/\p<=x.length/\xf x/\(vn (yt x.cps.toList p)=true->∀H',SameA o H H'->H' o=some (.ins C dx (rdF x (p+(yt x.cps.toList p).length) n))->Q (.str ⟨(yt x.cps.toList p).toArray⟩) H')/\(vn (yt x.cps.toList p)=false->NoE Cn o H E)
theorem sc_tname:zm ["self","start","name"] ["self"] (zy (zb (top 34) 3)):=⟨rfl,rfl,rfl,by decide +kernel,rfl,by decide +kernel,by decide +kernel⟩
theorem Pz{C Cn Wa:Addr}{t1 t2:Tok}(D:DefM K C "take_name" "Reading.take_name" (zb (top 34) 3) ["self"])(rc:RdC K C)(aC:v9 K Cn)(aF:mg "NoText"=some (.ref Cn))(bP:mg "SMALL_LETTERS"=some (.str "abcdefghijklmnopqrstuvwxyz" t1))(cC:mg "LONGEST_NAME"=some (.int 6 t2))(lZ:mg "WORDS"=some (.ref Wa))(hW:∀H,SqT K H Wa (wordsL.map V.str))(aD:mg "len"=none):yk P w K mg base 1 C "take_name" ["self"] (Vs C Cn):=by
 refine D.calleeX sc_tname (λvs H Q E h=>?_) λf cdv A outer s H vs Q E hr h=>?_
 ·obtain⟨o,dx,x,p,n,rfl,_⟩:=h
  rfl
 have nd:=sc_tname.nd;obtain⟨o,dx,x,p,n,rfl,ho,hp,hx,qy,qn⟩:=h;have JR:=hx.len;have nU:=ym x;have hnl:=Pm (x:=x.cps.toList) (p:=p) (by lia);refine⟨[some (.ref o),none,none],_,rfl,(zz (zn 1 nd (w8 (z8 0) rfl))
  (zz (PS.nox (Lz xV (PW.pt (Qp (zc S6 (w8 (z8 0) rfl) (zq ya rfl aD yp (z9 (w8 (z8 0) rfl) z4)) (ze _)) (Ve (zc Dt (vy (w8 (z8 0) rfl) (w8 (z8 0) rfl) (λ_ _=>rfl)) (Lv bP) (by with_unfolding_all rfl))))) (zx (oi (z8 0) (z6 z5 (w8 (z8 0) rfl) zv) rfl))))
  (zz (zn 2 nd (vz (w8 (z8 0) rfl) (uo (z8 1)) (uo (w8 (z8 0) rfl))))
  (zz (za (PW.pt (su (zc (wb hr.units) (z8 2) z7 (ze _)) (su (zc W2 (zq ya rfl aD yp (z9 (z8 2) z4)) (qz cC) (ze _)) (ud (zc Hs (z8 2) (wm lZ) (by with_unfolding_all rfl)))))) (zx (yr (xt aC aF (z9 (W1 (uc (cr (z8 2)) (uc z7 Xm))) z4)) xm rfl)) zi)
  (zx (zk (z8 2))))))),?_⟩
 walk_at"rp";refine⟨o,C,dx,_,_,rfl,ho,rc.cl,rc.p,rfl,?_⟩;refine M9 (C:=fun σ' H'=>σ'=[some (.ref o),some (.int (p:Int)),none]/\SameA o H H'/\H' o=some (.ins C dx (rdF x (p+(yt x.cps.toList p).length) n))) (λN hN=>?_) ?_
 ·walk_at"rp";refine⟨λm σ H'=>∃i,i+m=(yt x.cps.toList p).length/\σ=[some (.ref o),some (.int (p:Int)),none]/\SameA o H H'/\H' o=some (.ins C dx (rdF x (p+i) n)),⟨_,0,sX _,rfl,SameA.refl _ _,ho⟩,?_⟩;rintro m σ H1 ⟨i,him,rfl,s1,h1⟩;walk_at"rp";refine⟨o,C,dx,_,_,rfl,h1,rc.cl,rc.p,rfl,?_⟩;walk_at"rp";refine⟨o,C,dx,_,_,rfl,h1,rc.cl,rc.t,rfl,?_⟩;walk_at"rp";refine⟨by rw[yZ];lia,?_⟩;refine xi (λc=>?_) λc=>?_
  ·have bA:=zF c;refine⟨o,C,dx,_,_,rfl,h1,rc.cl,rc.t,rfl,o,C,dx,_,_,rfl,h1,rc.cl,rc.p,rfl,?_⟩;walk_at"rp";obtain⟨ch,pM⟩:∃ch,x.cps.toList[p+i]?=some ch:=⟨_,yG (by lia)⟩
   refine⟨by rw[yZ];lia,ch,lr pM,_,_,rfl,rfl,?_⟩;have KD:Txt.contains (Str.ofString "abcdefghijklmnopqrstuvwxyz") (⟨#[ch]⟩:Str)=small ch:=StrLaws.found_one _ _;rw[KD]
   by_cases hi:i<(yt x.cps.toList p).length
   ·obtain⟨ch',h2,h3⟩:=F7 hi;rw[pM]at h2;cases h2;rw[h3];walk_at"rp";refine⟨fun σ' H'=>σ'=[some (.ref o),some (.int (p:Int)),none]/\SameA o H H'/\H' o=some (.ins C dx (rdF x (p+(i+1)) n)),fun σ' H' ⟨e1,e2,e3⟩=>⟨m-1,by lia,i+1,by lia,e1,e2,e3⟩,?_⟩;walk_at"rp";refine⟨o,C,dx,_,_,rfl,h1,rc.cl,rc.p,rfl,o,C,dx,_,rfl,h1,rc.cl,rc.p,(show(3:Nat)<1000 by decide),by trivial,s1.trans (SameA.upd _ _ _),?_⟩;rw[zu,cs]
    rfl
   ·have e:i=(yt x.cps.toList p).length:=by lia
    subst e;rw[J5 pM];walk_at"rp";exact hN _ _ ⟨rfl,s1,h1⟩
  ·have AN:¬((p+i:Nat):Int)<(x.length:Int):=λz=>c (zI z);have e:i=(yt x.cps.toList p).length:=by lia
   subst e;exact hN _ _ ⟨rfl,s1,h1⟩
 ·rintro σ' H1 ⟨rfl,s1,h1⟩;walk_at"rp";refine⟨o,C,dx,_,_,rfl,h1,rc.cl,rc.t,rfl,?_⟩;walk_at"rp";refine⟨o,C,dx,_,_,rfl,h1,rc.cl,rc.p,rfl,?_⟩;walk_at"rp";refine⟨by rw[yZ];lia,?_⟩;rw[Pn hp];have hnn:(⟨(yt x.cps.toList p).toArray⟩:Str).length=(yt x.cps.toList p).length:=by simp[Str.length]
  have hncp:∀c∈(⟨(yt x.cps.toList p).toArray⟩:Str).cps.toList,c<16 ^ 8:=λc hc=>hx.cps c (by
   have h2:c∈yt x.cps.toList p:=by simpa using hc
   exact uR ((uU (l:=x.cps.toList.drop p) small).subset h2))
  have JT:=StrLaws.reprText_len _ hncp;rw[hnn]at JT;have hm:=Xa;have jR:vn (yt x.cps.toList p)=false->_:=λno=>Xs aC (qn no) s1;have sz:∀z:Str,z.length<=2000000->(Str.empty++z).length<=sizeLine/\(Str.empty++z++Str.ofString " is no name").length<=sizeLine/\(Str.empty++z++Str.ofString " is no name").length<=sizeLine/\[V.str (Str.empty++z++Str.ofString " is no name")].length<=sizeLine:=λz hz=>⟨by rw[qs,yZ];lia,by rw[Nn,qs,yZ];lia,by rw[Nn,qs,yZ];lia,zt (by simp)⟩
  have R:vn (yt x.cps.toList p)=false->((reprText ⟨(yt x.cps.toList p).toArray⟩).length<=sizeLine/\_/\_/\_/\_/\_):=λno=>by
   have z:=sz (reprText ⟨(yt x.cps.toList p).toArray⟩) (by lia);exact⟨by rw[yZ];lia,z.1,z.2.1,z.2.2.1,z.2.2.2,jR no⟩
  walk_at"rp";refine xi (λc=>R ?_) λc=>⟨by rw[hnn,yZ];lia,xi (λc2=>R ?_) λc2=>⟨_,.inr (hW _),rfl,rfl,?_⟩⟩
  ·have e:=str_nil.mp (zF c);unfold vn;rw[e]
   rfl
  ·have e:=zF c2;rw[hnn]at e;unfold vn;rw[zI (show 6<(yt x.cps.toList p).length by lia)];simp
  ·have e1:¬yt x.cps.toList p=[]:=λz=>c (zI (str_nil.mpr z));have e2:¬6<(yt x.cps.toList p).length:=λz=>c2 (zI (by rw[hnn];lia));rw[Z6];have e3:(wordsL.any λy=>y==(⟨(yt x.cps.toList p).toArray⟩:Str))=decide ((⟨(yt x.cps.toList p).toArray⟩:Str)∈wordsL):=by
    rw[vC,wX,decide_eq_true_iff];exact⟨λ⟨y,hy,e⟩=>by rw[<-wM.mp e];exact hy,λh=>⟨_,h,wM.mpr rfl⟩⟩
   rw[e3];have hok:vn (yt x.cps.toList p)=!decide ((⟨(yt x.cps.toList p).toArray⟩:Str)∈wordsL):=by
    unfold vn;rw[yV e1,yV e2]
    rfl
   cases hw:decide ((⟨(yt x.cps.toList p).toArray⟩:Str)∈wordsL)with
   |true =>
    walk_at"rp";exact R (by rw[hok,hw];rfl)
   |false =>
    walk_at"rp";exact qy (by rw[hok,hw];rfl) H1 s1 h1
theorem rf{x:List Nat}{o:Op2}{t1 t:Say}{q:PR}{r p:Nat}(h:ql x o t1 q=some (t,r,p)):∃t2 p2,q=some (t2,r,p2)/\nx x p2 (lit ")")=true/\t = .bin o t1 t2/\p=p2+1:=by
 unfold ql at h;split at h
 ·rename_i t2 r2 p2;split at h
  ·rename_i hn;cases h;exact⟨_,_,rfl,hn,rfl,rfl⟩
  ·cases h
 ·cases h
theorem w6{x:List Nat}:∀{f r p:Nat}{t:Say}{r' p':Nat},yz x f r p=some (t,r',p')->p<=x.length->r'<r/\p'<=x.length
 |0,r,p,t,r',p',h,_=>by simp[yz]at h
 |f+1,0,p,t,r',p',h,_=>by simp[yz]at h
 |f+1,r+1,p,t,r',p',h,hp=>by
  rw[yz]at h;split at h
  ·rename_i hn;have h4:=vo hp hn;unfold Qa at h;split at h
   ·rename_i t1 r1 p1 e;cases h;have:=w6 e (show p+4<=x.length from h4);lia
   ·cases h
  ·split at h
   ·rename_i hn;have h4:=vo hp hn;unfold pIf at h;split at h
    ·rename_i t1 r1 p1 e;have i1:=w6 e (show p+4<=x.length from h4);split at h
     ·rename_i CO;have h6:=vo i1.2 CO;obtain⟨t2,p2,e2,ER,rfl,rfl⟩:=rf h;have i2:=w6 e2 (show p1+6<=x.length from h6);have h1:=vo i2.2 ER;exact⟨by lia,h1⟩
     ·cases h
    ·cases h
   ·split at h
    ·rename_i hn;have h4:=vo hp hn;unfold se at h;split at h
     ·rename_i t1 r1 p1 e;have i1:=w6 e (show p+1<=x.length from h4);split at h
      ·rename_i CO;have h6:=vo i1.2 CO;obtain⟨t2,p2,e2,ER,rfl,rfl⟩:=rf h;have i2:=w6 e2 (show p1+5<=x.length from h6);have h1:=vo i2.2 ER;exact⟨by lia,h1⟩
      ·split at h
       ·rename_i CO;have h6:=vo i1.2 CO;obtain⟨t2,p2,e2,ER,rfl,rfl⟩:=rf h;have i2:=w6 e2 (show p1+4<=x.length from h6);have h1:=vo i2.2 ER;exact⟨by lia,h1⟩
       ·cases h
     ·cases h
    ·unfold cq at h;split at h
     ·cases h;exact⟨by lia,Pm hp⟩
     ·cases h
def RES(K:W.Frag)(C Cn o dx:Addr)(x:Str)(H:Hp)(Q:VK)(E:XK):PR->Prop
 |none=>NoE Cn o H E
 |some (t,r,p)=>∀(v:V)(H':Hp),SameA o H H'->H' o=some (.ins C dx (rdF x p (40-r)))->SayAt K H' v t->Q v H'
def Jx(K:W.Frag)(C Cn:Addr)(f:Nat)(ok:List Nat->Nat->Prop)(g:List Nat->Nat->Nat->PR):Sp:=λvs H Q E=>∃(o dx:Addr)(x:Str)(p n:Nat),vs=[.ref o]/\H o=some (.ins C dx (rdF x p n))/\p<=x.length/\xf x/\n<=40/\41-n<=f/\ok x.cps.toList p/\RES K C Cn o dx x H Q E (g x.cps.toList (40-n) p)
def Nj(K:W.Frag)(C Cn:Addr)(f:Nat):Sp:=Jx K C Cn f (λ_ _=>True) (λx=>yz x f)
def B2(K:W.Frag)(C Cn:Addr)(f:Nat):Sp:=Jx K C Cn f (λx p=>nx x p (lit "(if ")=true) (λx=>pIf x (yz x f))
def B3(K:W.Frag)(C Cn:Addr)(f:Nat):Sp:=Jx K C Cn f (λx p=>nx x p (lit "(")=true) (λx=>se x (yz x f))
theorem RES.mono{C Cn o dx:Addr}{x:Str}{H H1:Hp}{Q:VK}{E:XK}(s:SameA o H H1):∀{q:PR},RES K C Cn o dx x H Q E q->RES K C Cn o dx x H1 Q E q
 |none,h=>NoE.mono s h
 |some (t,r,p),h=>λv H' s' h' hv=>h v H' (s.trans s') h' hv
theorem w9{s:String}(h:(Str.ofString s).length<=100/\((Str.ofString s).cps.toList.all λc=>decide (c<16 ^ 8))=true):Ch (Str.ofString s):=⟨h.1,λc hc=>zF (yS.mp h.2 c hc)⟩
theorem SayAt.monoA{o C dx:Addr}{fs:List (Str×V)}{H H':Hp}{v:V}{t:Say}(s:SameA o H H')(h:H o=some (.ins C dx fs))(hv:SayAt K H v t):SayAt K H' v t:=hv.mono (s.tups h)
theorem sc_tif:zm ["self","one","other"] ["self"] (zy (zb (top 34) 4)):=⟨rfl,rfl,rfl,by decide +kernel,rfl,by decide +kernel,by decide +kernel⟩
theorem sc_tpair:zm ["self","one","kind","other"] ["self"] (zy (zb (top 34) 5)):=⟨rfl,rfl,rfl,by decide +kernel,rfl,by decide +kernel,by decide +kernel⟩
theorem sc_tsay:zm ["self"] ["self"] (zy (zb (top 34) 6)):=⟨rfl,rfl,rfl,by decide +kernel,rfl,by decide +kernel,by decide +kernel⟩
theorem Ic{C Cn:Addr}{f:Nat}(D:DefM K C "take_if" "Reading.take_if" (zb (top 34) 4) ["self"])(aK:yk P w K mg base 2 C "skip" ["self","signs"] (ba C Cn))(aE:yk P w K mg base (2*f+3) C "take_saying" ["self"] (Nj K C Cn f)):yk P w K mg base (2*f+4) C "take_if" ["self"] (B2 K C Cn f):=by
 refine D.calleeX sc_tif (λvs H Q E h=>?_) λff cdv A outer s H vs Q E hr h=>?_
 ·obtain⟨o,dx,x,p,n,rfl,_⟩:=h
  rfl
 have nd:=sc_tif.nd;obtain⟨o,dx,x,p,n,rfl,ho,hp,hx,hn,hf,hok,res⟩:=h;have nU:=ym x;have h4:p+4<=x.length:=by have:=vo (by lia) hok;rw[nU]at this;exact this
 refine⟨[some (.ref o),none,none],_,rfl,(zz (yi (ub aK yw hr (by lia) (z8 0) (z9 z7 z4)))
  (zz (zn 1 nd (w4 aE yw hr (by lia) (z8 0)))
  (zz (yi (ub aK yw hr (by lia) (z8 0) (z9 z7 z4)))
  (zz (zn 2 nd (w4 aE yw hr (by lia) (z8 0)))
  (zz (yi (ub aK yw hr (by lia) (z8 0) (z9 z7 z4)))
  (zx (zk (yy (z9 z7 (z9 (z8 1) (z9 (z8 2) z4))))))))))),?_⟩
 walk_at"rp";refine⟨o,dx,_,rfl,ho,rfl,o,dx,x,_,p,n,rfl,ho,hp,w9 (by decide +kernel),λ_ H1 s1 h1=>?_,λno=>?_⟩
 ·walk_at"rp";refine⟨o,dx,_,rfl,h1,rfl,o,dx,x,p+4,n,rfl,h1,h4,hx,hn,hf,trivial,?_⟩;replace res:RES K C Cn o dx x H Q E (pIf x.cps.toList (yz x.cps.toList f) (40-n) p):=res;unfold pIf at res;show RES K C Cn o dx x H1 _ E (yz x.cps.toList f (40-n) (p+4));cases e:yz x.cps.toList f (40-n) (p+4)with
  |none =>
   rw[e]at res;exact NoE.mono s1 res
  |some z =>
   obtain⟨t1,r1,p1⟩:=z;rw[e]at res;dsimp only at res;have i1:=w6 e (by lia);rw[nU]at i1;intro v1 H2 s2 h2 sI;walk_at"rp";have pK:=s1.trans s2;refine⟨o,dx,_,rfl,h2,rfl,o,dx,x,_,p1,_,rfl,h2,i1.2,w9 (by decide +kernel),λAV H3 s3 h3=>?_,λno=>?_⟩
   ·rw[zG (show nx x.cps.toList p1 (lit " then ")=true from AV)]at res;have h6:p1+6<=x.length:=by have:=vo (by rw[nU];exact i1.2) AV;rw[nU]at this;exact this
    walk_at"rp";refine⟨o,dx,_,rfl,h3,rfl,o,dx,x,p1+6,40-r1,rfl,h3,h6,hx,by lia,by lia,trivial,?_⟩;show RES K C Cn o dx x H3 _ E (yz x.cps.toList f (40-(40-r1)) (p1+6));rw[show 40-(40-r1)=r1 by lia];unfold ql at res;cases e2:yz x.cps.toList f r1 (p1+6)with
    |none =>
     rw[e2]at res;exact NoE.mono (pK.trans s3) res
    |some z2 =>
     obtain⟨t2,r2,p2⟩:=z2;rw[e2]at res;dsimp only at res;have i2:=w6 e2 (by lia);rw[nU]at i2;intro v2 H4 s4 BW GX;walk_at"rp";have AK:=pK.trans (s3.trans s4);refine⟨o,dx,_,rfl,BW,rfl,o,dx,x,_,p2,_,rfl,BW,i2.2,w9 (by decide +kernel),λAU H5 s5 h5=>?_,λno=>?_⟩
     ·rw[show lit ")"=(Str.ofString ")").cps.toList from rfl]at res;rw[zG AU]at res;walk_at"rp";refine⟨zt (by simp),λp6 H6 n6 s6 e6=>?_⟩;have sF:=SameA.of (o:=o) s6;refine res _ H6 (AK.trans (s5.trans sF)) ((s6 _ _ h5).trans (by rfl)) ⟨p6,v1,v2,rfl,SqT.of e6,SayAt.monoA (s3.trans (s4.trans (s5.trans sF))) h2 sI,SayAt.monoA (s5.trans sF) BW GX⟩
     ·rw[show lit ")"=(Str.ofString ")").cps.toList from rfl,no,zM (by decide)]at res;exact NoE.mono AK res
   ·rw[show lit " then "=(Str.ofString " then ").cps.toList from rfl]at res;rw[no,zM (by decide)]at res;exact NoE.mono pK res
 ·rw[show nx x.cps.toList p (Str.ofString "(if ").cps.toList=true from hok]at no;cases no
theorem N9:Str.empty++Str.ofString " "++Str.ofString "and"++Str.ofString " "=Str.ofString " and ":=by decide +kernel
theorem Mp:Str.empty++Str.ofString " "++Str.ofString "or"++Str.ofString " "=Str.ofString " or ":=by decide +kernel
theorem P0{C Cn:Addr}{f:Nat}(D:DefM K C "take_pair" "Reading.take_pair" (zb (top 34) 5) ["self"])(aL:qo P w K mg base 1 C "is_next" ["self","signs"] (a8 C))(aK:yk P w K mg base 2 C "skip" ["self","signs"] (ba C Cn))(aE:yk P w K mg base (2*f+3) C "take_saying" ["self"] (Nj K C Cn f)):yk P w K mg base (2*f+4) C "take_pair" ["self"] (B3 K C Cn f):=by
 refine D.calleeX sc_tpair (λvs H Q E h=>?_) λff cdv A outer s H vs Q E hr h=>?_
 ·obtain⟨o,dx,x,p,n,rfl,_⟩:=h
  rfl
 have nd:=sc_tpair.nd;obtain⟨o,dx,x,p,n,rfl,ho,hp,hx,hn,hf,hok,res⟩:=h;have nU:=ym x;have h4:p+1<=x.length:=by have:=vo (by lia) hok;rw[nU]at this;exact this
 refine⟨[some (.ref o),none,none,none],_,rfl,(zz (yi (ub aK yw hr (by lia) (z8 0) (z9 z7 z4)))
  (zz (zn 1 nd (w4 aE yw hr (by lia) (z8 0)))
  (zz (zn 2 nd (Qe (xw (j7 aL hr (by lia) (z8 0) (z9 z7 z4))) z7 z7))
  (zz (yi (ub aK yw hr (by lia) (z8 0) (z9 (W1 (uc z7 (uc (Qd (z8 2)) (uc z7 Xm)))) z4)))
  (zz (zn 3 nd (w4 aE yw hr (by lia) (z8 0)))
  (zz (yi (ub aK yw hr (by lia) (z8 0) (z9 z7 z4)))
  (zx (zk (yy (z9 (z8 2) (z9 (z8 1) (z9 (z8 3) z4)))))))))))),?_⟩
 walk_at"rp";refine⟨o,dx,_,rfl,ho,rfl,o,dx,x,_,p,n,rfl,ho,hp,w9 (by decide +kernel),λ_ H1 s1 h1=>?_,λno=>?_⟩
 ·walk_at"rp";refine⟨o,dx,_,rfl,h1,rfl,o,dx,x,p+1,n,rfl,h1,h4,hx,hn,hf,trivial,?_⟩;replace res:RES K C Cn o dx x H Q E (se x.cps.toList (yz x.cps.toList f) (40-n) p):=res;unfold se at res;show RES K C Cn o dx x H1 _ E (yz x.cps.toList f (40-n) (p+1));cases e:yz x.cps.toList f (40-n) (p+1)with
  |none =>
   rw[e]at res;exact NoE.mono s1 res
  |some z =>
   obtain⟨t1,r1,p1⟩:=z;rw[e]at res;dsimp only at res;have i1:=w6 e (by lia);rw[nU]at i1;intro v1 H2 s2 h2 sI;walk_at"rp";have pK:=s1.trans s2;refine⟨o,dx,_,rfl,h2,rfl,o,dx,x,_,p1,_,rfl,h2,i1.2,?_⟩;cases hand:nx x.cps.toList p1 (Str.ofString " and ").cps.toList with
   |true =>
    rw[show lit " and "=(Str.ofString " and ").cps.toList from rfl,hand,zG rfl]at res;walk_at"rp";refine⟨o,dx,_,rfl,h2,rfl,zt (by decide +kernel),zt (by decide +kernel),zt (by decide +kernel),zt (by decide +kernel),zt (by decide +kernel),?_⟩;rw[N9];refine⟨o,dx,x,_,p1,_,rfl,h2,i1.2,w9 (by decide +kernel),λAV H3 s3 h3=>?_,λno=>?_⟩
    ·skip
     have h6:p1+5<=x.length:=by have:=vo (by rw[nU];exact i1.2) AV;rw[nU]at this;exact this
     walk_at"rp";refine⟨o,dx,_,rfl,h3,rfl,o,dx,x,p1+5,40-r1,rfl,h3,h6,hx,by lia,by lia,trivial,?_⟩;show RES K C Cn o dx x H3 _ E (yz x.cps.toList f (40-(40-r1)) (p1+5));rw[show 40-(40-r1)=r1 by lia];unfold ql at res;cases e2:yz x.cps.toList f r1 (p1+5)with
     |none =>
      rw[e2]at res;exact NoE.mono (pK.trans s3) res
     |some z2 =>
      obtain⟨t2,r2,p2⟩:=z2;rw[e2]at res;dsimp only at res;have i2:=w6 e2 (by lia);rw[nU]at i2;intro v2 H4 s4 BW GX;walk_at"rp";have AK:=pK.trans (s3.trans s4);refine⟨o,dx,_,rfl,BW,rfl,o,dx,x,_,p2,_,rfl,BW,i2.2,w9 (by decide +kernel),λAU H5 s5 h5=>?_,λno=>?_⟩
      ·rw[show lit ")"=(Str.ofString ")").cps.toList from rfl,zG AU]at res;walk_at"rp";refine⟨zt (by simp),λp6 H6 n6 s6 e6=>?_⟩;have sF:=SameA.of (o:=o) s6;refine res _ H6 (AK.trans (s5.trans sF)) ((s6 _ _ h5).trans (by rfl)) ⟨p6,v1,v2,rfl,SqT.of e6,SayAt.monoA (s3.trans (s4.trans (s5.trans sF))) h2 sI,SayAt.monoA (s5.trans sF) BW GX⟩
      ·rw[show lit ")"=(Str.ofString ")").cps.toList from rfl,no,zM (by decide)]at res;exact NoE.mono AK res
    ·(rw[hand]at no;cases no)
   |false =>
    rw[show lit " and "=(Str.ofString " and ").cps.toList from rfl,hand,zM (by decide),show lit " or "=(Str.ofString " or ").cps.toList from rfl]at res;walk_at"rp";refine⟨o,dx,_,rfl,h2,rfl,zt (by decide +kernel),zt (by decide +kernel),zt (by decide +kernel),zt (by decide +kernel),zt (by decide +kernel),?_⟩;rw[Mp];refine⟨o,dx,x,_,p1,_,rfl,h2,i1.2,w9 (by decide +kernel),λAV H3 s3 h3=>?_,λno=>?_⟩
    ·rw[zG AV]at res;have h6:p1+4<=x.length:=by have:=vo (by rw[nU];exact i1.2) AV;rw[nU]at this;exact this
     walk_at"rp";refine⟨o,dx,_,rfl,h3,rfl,o,dx,x,p1+4,40-r1,rfl,h3,h6,hx,by lia,by lia,trivial,?_⟩;show RES K C Cn o dx x H3 _ E (yz x.cps.toList f (40-(40-r1)) (p1+4));rw[show 40-(40-r1)=r1 by lia];unfold ql at res;cases e2:yz x.cps.toList f r1 (p1+4)with
     |none =>
      rw[e2]at res;exact NoE.mono (pK.trans s3) res
     |some z2 =>
      obtain⟨t2,r2,p2⟩:=z2;rw[e2]at res;dsimp only at res;have i2:=w6 e2 (by lia);rw[nU]at i2;intro v2 H4 s4 BW GX;walk_at"rp";have AK:=pK.trans (s3.trans s4);refine⟨o,dx,_,rfl,BW,rfl,o,dx,x,_,p2,_,rfl,BW,i2.2,w9 (by decide +kernel),λAU H5 s5 h5=>?_,λno=>?_⟩
      ·rw[show lit ")"=(Str.ofString ")").cps.toList from rfl,zG AU]at res;walk_at"rp";refine⟨zt (by simp),λp6 H6 n6 s6 e6=>?_⟩;have sF:=SameA.of (o:=o) s6;refine res _ H6 (AK.trans (s5.trans sF)) ((s6 _ _ h5).trans (by rfl)) ⟨p6,v1,v2,rfl,SqT.of e6,SayAt.monoA (s3.trans (s4.trans (s5.trans sF))) h2 sI,SayAt.monoA (s5.trans sF) BW GX⟩
      ·rw[show lit ")"=(Str.ofString ")").cps.toList from rfl,no,zM (by decide)]at res;exact NoE.mono AK res
    ·(rw[no,zM (by decide)]at res;exact NoE.mono pK res)
 ·rw[show nx x.cps.toList p (Str.ofString "(").cps.toList=true from hok]at no;cases no
theorem U5{C Cn:Addr}{t3:Tok}(DI:DefM K C "take_if" "Reading.take_if" (zb (top 34) 4) ["self"])(DP:DefM K C "take_pair" "Reading.take_pair" (zb (top 34) 5) ["self"])(D:DefM K C "take_saying" "Reading.take_saying" (zb (top 34) 6) ["self"])(rc:RdC K C)(aL:qo P w K mg base 1 C "is_next" ["self","signs"] (a8 C))(aK:yk P w K mg base 2 C "skip" ["self","signs"] (ba C Cn))(cO:yk P w K mg base 1 C "take_name" ["self"] (Vs C Cn))(aC:v9 K Cn)(aF:mg "NoText"=some (.ref Cn))(aS:mg "MOST_PIECES"=some (.int 40 t3)):∀f:Nat,yk P w K mg base (2*f+3) C "take_saying" ["self"] (Nj K C Cn f)
 |0=>D.calleeX sc_tsay (λvs H Q E h=>by
   obtain⟨o,dx,x,p,n,rfl,_⟩:=h
   rfl) λff cdv A outer s H vs Q E hr h=>by
   obtain⟨o,dx,x,p,n,rfl,ho,hp,hx,hn,hf,_⟩:=h;lia
 |f+1=>by
  have aE:=U5 DI DP D rc aL aK cO aC aF aS f;have jN:=Ic DI aK aE;have hX:=P0 DP aL aK aE;refine D.calleeX (k:=2*f+4) sc_tsay (λvs H Q E h=>?_) λff cdv A outer s H vs Q E hr h=>?_
  ·obtain⟨o,dx,x,p,n,rfl,_⟩:=h
   rfl
  have nd:=sc_tsay.nd;obtain⟨o,dx,x,p,n,rfl,ho,hp,hx,hn,hf,hok,res⟩:=h;have nU:=ym x;replace res:RES K C Cn o dx x H Q E (yz x.cps.toList (f+1) (40-n) p):=res;refine⟨[some (.ref o)],_,rfl,(zz (oi (z8 0) (z6 z5 (w8 (z8 0) rfl) zv) rfl)
  (zz (za (zc W2 (w8 (z8 0) rfl) (qz aS) (ze _)) (zx (yr (xt aC aF (z9 z7 z4)) xm rfl)) zi)
  (zz (za (xw (j7 aL hr (by lia) (z8 0) (z9 z7 z4))) (zz (yi (ub aK yw hr (by lia) (z8 0) (z9 z7 z4)))
  (zx (zk (yy (z9 z7 (z9 (w4 aE yw hr (by lia) (z8 0)) z4)))))) zi)
  (zz (za (xw (j7 aL hr (by lia) (z8 0) (z9 z7 z4))) (zx (zk (w4 jN yw hr (by lia) (z8 0)))) zi)
  (zz (za (xw (j7 aL hr (by lia) (z8 0) (z9 z7 z4))) (zx (zk (w4 hX yw hr (by lia) (z8 0)))) zi)
  (zx (zk (yy (z9 z7 (z9 (w4 cO yw hr (by lia) (z8 0)) z4)))))))))),?_⟩
  walk_at"rp";refine⟨o,C,dx,_,_,rfl,ho,rc.cl,rc.n,rfl,o,C,dx,_,rfl,ho,rc.cl,rc.n,(show(3:Nat)<1000 by decide),?_⟩;rw[Xq];have s1:SameA o H (upd H o (.ins C dx (rdI x (p:Int) ((n:Int)+1)))):=SameA.upd _ _ _;have h1:upd H o (HO.ins C dx (rdI x (p:Int) ((n:Int)+1))) o=some (.ins C dx (rdF x p (n+1))):=zu;generalize upd H o (HO.ins C dx (rdI x (p:Int) ((n:Int)+1)))=H1 at s1 h1;walk_at"rp";refine⟨o,C,dx,_,_,rfl,h1,rc.cl,rc.n,rfl,?_⟩;walk_at"rp";refine xi (λc=>?_) λc=>?_
  ·have c':=zF c;rw[show 40-n=0 by lia,yz]at res;exact⟨zt (by simp),Xs aC res s1⟩
  have bA:n<40:=by
   rcases wE n 40 with z|z
   ·exact z
   ·exact absurd (zI (by lia)) c
  rw[show 40-n=(40-(n+1))+1 by lia,yz]at res;walk_at"rp";refine⟨o,dx,_,rfl,h1,rfl,o,dx,x,_,p,_,rfl,h1,hp,?_⟩;cases hnot:nx x.cps.toList p (Str.ofString "not ").cps.toList with
  |true =>
   rw[show lit "not "=(Str.ofString "not ").cps.toList from rfl,hnot,zG rfl]at res;walk_at"rp";refine⟨o,dx,_,rfl,h1,rfl,o,dx,x,_,p,_,rfl,h1,hp,w9 (by decide +kernel),λ_ H2 s2 h2=>?_,λno=>by rw[hnot]at no;cases no⟩;have h4:p+4<=x.length:=by have:=vo (by lia) hnot;rw[nU]at this;exact this
   walk_at"rp";refine⟨o,dx,_,rfl,h2,rfl,o,dx,x,p+4,n+1,rfl,h2,h4,hx,by lia,by lia,trivial,?_⟩;show RES K C Cn o dx x H2 _ E (yz x.cps.toList f (40-(n+1)) (p+4));unfold Qa at res;cases e:yz x.cps.toList f (40-(n+1)) (p+4)with
   |none =>
    rw[e]at res;exact NoE.mono (s1.trans s2) res
   |some z =>
    obtain⟨t1,r1,p1⟩:=z;rw[e]at res;dsimp only at res;intro v1 H3 s3 h3 sI;walk_at"rp";refine⟨zt (by simp),λp6 H6 n6 s6 e6=>?_⟩;have sF:=SameA.of (o:=o) s6;exact res _ H6 (s1.trans (s2.trans (s3.trans sF))) (s6 _ _ h3) ⟨p6,v1,rfl,SqT.of e6,SayAt.monoA sF h3 sI⟩
  |false =>
   rw[show lit "not "=(Str.ofString "not ").cps.toList from rfl,hnot,zM (by decide)]at res;walk_at"rp";refine⟨o,dx,_,rfl,h1,rfl,o,dx,x,_,p,_,rfl,h1,hp,?_⟩;cases DG:nx x.cps.toList p (Str.ofString "(if ").cps.toList with
   |true =>
    rw[show lit "(if "=(Str.ofString "(if ").cps.toList from rfl,DG,zG rfl]at res;walk_at"rp";refine⟨o,dx,_,rfl,h1,rfl,o,dx,x,p,n+1,rfl,h1,hp,hx,by lia,by lia,DG,?_⟩;exact RES.mono s1 res
   |false =>
    rw[show lit "(if "=(Str.ofString "(if ").cps.toList from rfl,DG,zM (by decide)]at res;walk_at"rp";refine⟨o,dx,_,rfl,h1,rfl,o,dx,x,_,p,_,rfl,h1,hp,?_⟩;cases hop:nx x.cps.toList p (Str.ofString "(").cps.toList with
    |true =>
     rw[show lit "("=(Str.ofString "(").cps.toList from rfl,hop,zG rfl]at res;walk_at"rp";refine⟨o,dx,_,rfl,h1,rfl,o,dx,x,p,n+1,rfl,h1,hp,hx,by lia,by lia,hop,?_⟩;exact RES.mono s1 res
    |false =>
     rw[show lit "("=(Str.ofString "(").cps.toList from rfl,hop,zM (by decide)]at res;unfold cq at res;walk_at"rp";refine⟨o,dx,_,rfl,h1,rfl,o,dx,x,p,n+1,rfl,h1,hp,hx,λAV H2 s2 h2=>?_,λno=>?_⟩
     ·rw[zG AV]at res;walk_at"rp";refine⟨zt (by simp),λp6 H6 n6 s6 e6=>?_⟩;exact res _ H6 (s1.trans (s2.trans (SameA.of s6))) ((s6 _ _ h2).trans (by rw[show 40-(40-(n+1))=n+1 by lia])) ⟨p6,rfl,SqT.of e6⟩
     ·rw[no,zM (by decide)]at res;exact NoE.mono s1 res
def dh(K:W.Frag)(n:Nat):Sp:=λvs H Q _=>∃(v:V)(s:Say),vs=[v]/\SayAt K H v s/\s.pieces<=n/\s.pieces<=1000/\∀(p:Addr)(H':Hp),H p=none->Same H H'->H' p=some (.lst (s.letters.map V.str))->Q (.ref p) H'
theorem sc_letters:zm ["saying","letters","inner"] ["saying"] (zy (top 9)):=⟨rfl,rfl,rfl,by decide +kernel,rfl,by decide +kernel,by decide +kernel⟩
theorem kf(D:Def K mg "letters_in" (top 9) ["saying"]):∀n:Nat,zh P w K mg base n "letters_in" ["saying"] (dh K n)
 |0=>v7 D λvs H Q E h=>by
  obtain⟨v,s,_,_,hp,_⟩:=h;exact absurd s.pieces_pos (by lia)
 |n+1=>by
  have eF:=kf D n;refine D.callee sc_letters (λvs H Q E h=>?_) λf cdv A outer s H vs Q E hr h=>?_
  ·obtain⟨v,s,rfl,_⟩:=h
   rfl
  have nd:=sc_letters.nd;obtain⟨v,s,rfl,hv,hp,HD,q⟩:=h;refine⟨[some v,none,none],_,rfl,(zz (za (zc (wb hr.units) (vy (z8 0) zv (λ_ _=>rfl)) z7 (ze _)) (zx (zk (zd (z9 (vy (z8 0) zv (λ_ _=>rfl)) z4)))) zi)
  (zz (zn 1 nd (zd z4))
  (zz (uk xV rfl (wt (vz (z8 0) (uo zv) vb)) (ve 2 nd) (zx (yi (S5 vM uA W0 (z8 1) (z9 (zg eF hr (by lia) (z9 (z8 2) z4)) z4)))))
  (zx (zk (z8 1)))))),?_⟩
  by_cases hs:s.subs=[]
  ·cases s with
   |letter x =>
    obtain⟨a,rfl,ha⟩:=hv;walk_at"rp";refine⟨_,_,.inr ha,rfl,?_⟩;walk_at"rp";refine⟨_,_,.inr ha,rfl,?_⟩;walk_at"rp";exact⟨zt (by simp),λp H1 n1 s1 e1=>q p H1 n1 s1 e1⟩
   |neg t=>simp[Say.subs]at hs
   |bin o t t'=>simp[Say.subs]at hs
  ·obtain⟨a,wd,us,rfl,ha,hw,hl,sK,hu⟩:=Zb hv hs;walk_at"rp";refine⟨_,_,.inr ha,Ul _ _,?_⟩;walk_at"rp";rw[hw];walk_at"rp";refine⟨zt (by simp),λr H0 n0 s0 e0=>?_⟩;refine .inr ⟨_,(zw s0).sqT ha,λp H1 s1 h1=>.inr ⟨⟨_,h1⟩,?_⟩⟩;rw[Yh]at h1;refine uj (xs:=us) (λi σ H2=>∃iv,σ=[some (.ref a),some (.ref r),iv]/\H2 r=some (.lst ((((s.subs.take i).map Say.letters).flatten).map V.str))/\Same H H2/\SqT K H2 p us/\i<=us.length) ⟨none,rfl,s1 _ _ e0,s0.trans s1,h1,yJ _⟩ ?_ ?_ ?_
   ·rintro i σ H2 _ ⟨iv,rfl,_,_,h2,_⟩;exact h2
   ·rintro i x σ H2 hx ⟨iv,rfl,e2,s2,h2,hi⟩;obtain⟨t,ht,sv,pc⟩:=hu i x hx;walk_at"rp";refine⟨⟨_,_,rfl,e2⟩,x,t,rfl,sv.mono (zw s2),by lia,by lia,λz H3 n3 s3 e3=>?_⟩;have iF:z≠r:=λe=>by rw[e,e2]at n3;cases n3
    walk_at"rp";have b1:=Yj (s.subs.take i);have b2:=Zn Say.pieces s.subs i;have b3:=nn s;have b4:=ye t;refine⟨_,_,s3 _ _ e2,.inl e3,?_,some x,rfl,?_,zf (s2.trans s3) n0 _,?_,(zR.mp hx).1⟩
    ·rw[zV,zV];rw[yZ];lia
    ·rw[zu,xU,ht];simp
    ·exact(sj (s3 _ _ e2)).sqT ((zw s3).sqT h2)
   ·rintro σ H2 ⟨iv,rfl,e2,s2,h2,_⟩;walk_at"rp";rw[hl,xW,<-bb hs]at e2;exact q r H2 n0 s2 e2
def om(K:W.Frag):Sp:=λvs H Q _=>∃(v:V)(s:Say),vs=[v]/\SayAt K H v s/\s.pieces<=40/\∀(p:Addr)(H':Hp)(ss:List Str),Same H H'->SqT K H' p (ss.map V.str)->ss.Nodup->(∀x,x∈ss↔x∈s.letters)->sortedS ss=true->Q (.ref p) H'
theorem sc_namesin:zm ["saying"] ["saying"] (zy (top 10)):=⟨rfl,rfl,rfl,by decide +kernel,rfl,by decide +kernel,by decide +kernel⟩
theorem Xi(D:Def K mg "names_in" (top 10) ["saying"])(eF:zh P w K mg base 40 "letters_in" ["saying"] (dh K 40))(aV:mg "sorted"=none)(cA:mg "set"=none)(aH:mg "tuple"=none):zh P w K mg base 41 "names_in" ["saying"] (om K):=by
 refine D.callee sc_namesin (λvs H Q E h=>?_) λf cdv A outer s H vs Q E hr h=>?_
 ·obtain⟨v,s,rfl,_⟩:=h
  rfl
 have nd:=sc_namesin.nd;obtain⟨v,s,rfl,hv,hp,q⟩:=h;refine⟨[some v],_,rfl,(zx (zk (xh uy rfl aH xn (z9 (ux rfl hr.units rfl aV rfl cA (zg eF hr (by lia) (z9 (z8 0) z4))) z4)))),?_⟩;walk_at"rp";have aZ:=ye s;refine⟨v,s,rfl,hv,hp,by lia,λp H1 n1 s1 e1=>?_⟩;walk_at"rp";refine .inl ⟨_,.inl (SqL.of e1),by unfold scanBound;lia,λdL hn hs=>?_,λdL hn hm gY r H2 n2 s2 e2=>?_⟩
 ·have:=wq hn hs;lia
 ·walk_at"rp";exact⟨_,.inl (SqL.of e2),λr' H3 s3 h3=>q r' H3 dL (s1.trans (s2.trans s3)) h3 hn hm gY⟩
theorem T6{xs:List Str}(i:Nat)(x:V)(hx:(xs.map V.str)[i]?=some x):∃y,x = .str y/\i<xs.length/\xs.drop i=y::xs.drop (i+1):=by
 rw[yI]at hx;cases e:xs[i]? with
 |none=>rw[e]at hx;cases hx
 |some y =>
  rw[e]at hx;obtain⟨hi,ey⟩:=zR.mp e;exact⟨y,(yT hx).symm,hi,by rw[List.drop_eq_getElem_cons hi,ey]⟩
def Re(K:W.Frag):Sp:=λvs H Q _=>∃(b:Addr)(xs:List Str),vs=[.ref b]/\SqT K H b (xs.map V.str)/\xs.length<=10/\Q (.int ((2 ^ xs.length:Nat):Int)) H
theorem sc_ways:zm ["names","ways","name"] ["names"] (zy (top 13)):=⟨rfl,rfl,rfl,by decide +kernel,rfl,by decide +kernel,by decide +kernel⟩
theorem Me(D:Def K mg "ways_to_hold" (top 13) ["names"]):zh P w K mg base 1 "ways_to_hold" ["names"] (Re K):=by
 refine D.callee sc_ways (λvs H Q E h=>?_) λf cdv A outer s H vs Q E hr h=>?_
 ·obtain⟨b,xs,rfl,_⟩:=h
  rfl
 have nd:=sc_ways.nd;obtain⟨b,xs,rfl,hb,hx,q⟩:=h;refine⟨[some (.ref b),none,none],_,rfl,(zz (zn 1 nd zv)
  (zz (uk xV rfl (wt (z8 0)) (ve 2 nd) (zx (zn 1 nd (z6 r9 (z8 1) zv))))
  (zx (zk (z8 1))))),?_⟩
 walk_at"rp";refine .inr ⟨⟨_,hb⟩,uj (xs:=xs.map V.str) (λi σ H2=>∃nv,σ=[some (.ref b),some (.int ((2 ^ i:Nat):Int)),nv]/\H2=H) ⟨none,rfl,rfl⟩ ?_ ?_ ?_⟩
 ·rintro i σ H2 _ ⟨nv,rfl,rfl⟩;exact hb
 ·rintro i x σ H2 EJ ⟨nv,rfl,rfl⟩;walk_at"rp";refine⟨cm2 (by decide),some x,?_,trivial⟩;rw[Nat.pow_succ,Int.natCast_mul]
  rfl
 ·rintro σ H2 ⟨nv,rfl,rfl⟩;walk_at"rp";rw[zV];exact q
def Zg(K:W.Frag):Sp:=λvs H Q _=>∃(n:Int)(b:Addr)(xs:List Str),vs=[.int n,.ref b]/\SqT K H b (xs.map V.str)/\xs.length<=100/\∀(r:Addr)(H':Hp),Same H H'->SqT K H' r ((yb n xs).map V.str)->Q (.ref r) H'
theorem sc_heldby:zm ["number","names","held","rest","name"] ["number","names"] (zy (top 14)):=⟨rfl,rfl,rfl,by decide +kernel,rfl,by decide +kernel,by decide +kernel⟩
theorem Tg(D:Def K mg "held_by" (top 14) ["number","names"])(aH:mg "tuple"=none):zh P w K mg base 1 "held_by" ["number","names"] (Zg K):=by
 refine D.callee sc_heldby (λvs H Q E h=>?_) λf cdv A outer s H vs Q E hr h=>?_
 ·obtain⟨n,b,xs,rfl,_⟩:=h
  rfl
 have nd:=sc_heldby.nd;obtain⟨n,b,xs,rfl,hb,hx,q⟩:=h;refine⟨[some (.int n),some (.ref b),none,none,none],_,rfl,(zz (zn 2 nd (zd z4))
  (zz (zn 3 nd (z8 0))
  (zz (uk xV rfl (wt (z8 1)) (ve 4 nd) (zz (za (zc (wb hr.units) (z6 vk (z8 3) zv) zv (ze _)) (zx (yi (S5 tZ tY Pd (z8 2) (z9 (z8 4) z4)))) zi)
  (zx (zn 3 nd (z6 Pe (z8 3) zv)))))
  (zx (zk (xh uy rfl aH xn (z9 (z8 2) z4))))))),?_⟩
 walk_at"rp";refine⟨zt (by simp),λp H1 n1 s1 e1=>?_⟩;have aZ:(xs.map V.str).length=xs.length:=zV _;refine .inr ⟨⟨_,(zw s1).sqT hb⟩,uj (xs:=xs.map V.str) (λi σ H2=>∃(m:Int)(cW:List Str)(nv:Option V),σ=[some (.int n),some (.ref b),some (.ref p),some (.int m),nv]/\cW++yb m (xs.drop i)=yb n xs/\H2 p=some (.lst (cW.map V.str))/\Same H H2/\cW.length<=i) ⟨n,[],none,rfl,rfl,e1,s1,zT _⟩ ?_ ?_ ?_⟩
 ·rintro i σ H2 _ ⟨m,cW,nv,rfl,e,ep,s2,_⟩;exact(zw s2).sqT hb
 ·rintro i x σ H2 EJ ⟨m,cW,nv,rfl,e,ep,s2,ha⟩;obtain⟨y,rfl,hi,ed⟩:=T6 i x EJ;rw[ed]at e;walk_at"rp";refine⟨by decide,xi (λc=>?_) (λc=>?_)⟩
  ·have c':m % 2=1:=zF c;rw[yb,zG c']at e;refine⟨⟨_,_,rfl,ep⟩,_,ep,by rw[zV];exact ri (by lia),⟨by decide,by decide⟩,m / 2,cW++[y],_,rfl,by rw[zJ];exact e,by rw[zu,yM];rfl,zf s2 n1 _,by rw[zE,uX];lia⟩
  ·have c':¬m % 2=1:=λz=>c (zI z);rw[yb,zM c']at e;exact⟨⟨by decide,by decide⟩,m / 2,cW,_,rfl,e,ep,s2,by lia⟩
 ·rintro σ H2 ⟨m,cW,nv,rfl,e,ep,s2,_⟩;rw[aZ,List.drop_length]at e;have e':cW=yb n xs:=by simpa[yb]using e
  walk_at"rp";exact⟨_,.inl (SqL.of ep),λr H' s3 hr3=>q r H' (s2.trans s3) (by rw[<-e'];exact hr3)⟩
theorem y9{H H':Hp}{p:Addr}(s:Same H H')(n:H' p=none):H p=none:=by
 cases e:H p with
 |none=>rfl
 |some o=>rw[s _ _ e]at n;cases n
theorem be{ts:List Say}{i:Nat}{t:Say}(h:ts[i]?=some t):rk (ts.take (i+1))=rk (ts.take i)++t.letters:=by
 rw[xU,h,N7];simp[rk]
def di(K:W.Frag):Sp:=λvs H Q _=>∃(a:Addr)(us:List V)(ts:List Say)(xs:List Str),vs=[.ref a]/\SqT K H a us/\SaysAt K H us ts/\Lst ts xs/\∀(p:Addr)(H':Hp)(ss:List Str),Same H H'->SqT K H' p (ss.map V.str)->NamesOf ts ss->Q (.ref p) H'
theorem sc_namesof:zm ["sayings","names","saying"] ["sayings"] (zy (top 16)):=⟨rfl,rfl,rfl,by decide +kernel,rfl,by decide +kernel,by decide +kernel⟩
theorem Xj(D:Def K mg "names_of" (top 16) ["sayings"])(jF:zh P w K mg base 41 "names_in" ["saying"] (om K))(aV:mg "sorted"=none)(cA:mg "set"=none)(aH:mg "tuple"=none):zh P w K mg base 42 "names_of" ["sayings"] (di K):=by
 refine D.callee sc_namesof (λvs H Q E h=>?_) λf cdv A outer s H vs Q E hr h=>?_
 ·obtain⟨a,us,ts,xs,rfl,_⟩:=h
  rfl
 have nd:=sc_namesof.nd;obtain⟨a,us,ts,xs,rfl,ha,hS,hL,q⟩:=h;have hl:=hS.len;refine⟨[some (.ref a),none,none],_,rfl,(zz (zn 1 nd (zd z4))
  (zz (uk xV rfl (wt (z8 0)) (ve 2 nd) (zx (yi (S5 vM uA W0 (z8 1) (z9 (zg jF hr (by lia) (z9 (z8 2) z4)) z4)))))
  (zx (zk (xh uy rfl aH xn (z9 (ux rfl hr.units rfl aV rfl cA (z8 1)) z4)))))),?_⟩
 walk_at"rp";refine⟨zt (by simp),λr H1 n1 s1 e1=>?_⟩;refine .inr ⟨⟨_,(zw s1).sqT ha⟩,uj (xs:=us) (λi σ H2=>∃(cW:List Str)(iv:Option V),σ=[some (.ref a),some (.ref r),iv]/\H2 r=some (.lst (cW.map V.str))/\(∀x,x∈cW↔x∈rk (ts.take i))/\cW.length<=40*i/\Same H H2) ⟨[],none,rfl,e1,λx=>by simp[rk],zT _,s1⟩ ?_ ?_ ?_⟩
 ·rintro i σ H2 _ ⟨cW,iv,rfl,_,_,_,s2⟩;exact(zw s2).sqT ha
 ·rintro i x σ H2 hx ⟨cW,iv,rfl,e2,hm,hc,s2⟩;obtain⟨t,ht,sv⟩:=hS.at i x hx;have GY:=zB ht;have hi:i<us.length:=(zR.mp hx).1;have h6:=hL.hi;walk_at"rp";refine⟨⟨_,_,rfl,e2⟩,x,t,rfl,sv.mono (zw s2),hL.pc t GY,λp H3 ss s3 hp nds kG _=>?_⟩;walk_at"rp";have EM:ss.length<=40:=yQ (wq nds λy hy=>(kG y).mp hy) (yQ (ye t) (hL.pc t GY));refine⟨_,_,s3 _ _ e2,.inr hp,by rw[zV,zV,yZ];lia,cW++ss,some x,rfl,by rw[zu,yM],λy=>?_,by rw[zE];lia,zf (s2.trans s3) n1 _⟩;rw[zK,hm y,kG y,be ht,zK]
 ·rintro σ H2 ⟨cW,iv,rfl,e2,hm,hc,s2⟩;rw[hl,xW]at hm;have h6:=hL.hi;walk_at"rp";refine .inl ⟨_,.inl (SqL.of e2),by unfold scanBound;lia,λdL hn hs=>?_,λdL hn hmm gY p H3 n3 s3 e3=>?_⟩
  ·have:=wq hn λy hy=>hL.nm y ((hm y).mp (hs y hy));have:=hL.xl;lia
  ·walk_at"rp";exact⟨_,.inl (SqL.of e3),λp' H4 s4 h4=>q p' H4 dL (s2.trans (s3.trans s4)) h4 ⟨hn,λy=>(hmm y).trans (hm y),gY⟩⟩
def de(K:W.Frag):Sp:=λvs H Q _=>∃(a:Addr)(us:List V)(ts:List Say)(xs:List Str),vs=[.ref a]/\SqT K H a us/\SaysAt K H us ts/\Lst ts xs/\∀(p:Addr)(H':Hp)(ss:List Str)(as:List Addr),H p=none->Same H H'->H' p=some (.lst (as.map V.ref))->NamesOf ts ss->as.length=2 ^ ss.length ->
 (∀(n:Nat) b,as[n]?=some b->SqT K H' b ((yb (n:Int) ss).map V.str))->Q (.ref p) H'
theorem sc_allheld:zm ["sayings","names"] ["sayings"] (zy (top 17)):=⟨rfl,rfl,rfl,by decide +kernel,rfl,by decide +kernel,by decide +kernel⟩
theorem Ku{n:Nat}(h:n<=5):2 ^ n<=32:=Nat.pow_le_pow_right (by decide) h
theorem Xd(D:Def K mg "all_held" (top 17) ["sayings"])(jE:zh P w K mg base 42 "names_of" ["sayings"] (di K))(AH:zh P w K mg base 1 "held_by" ["number","names"] (Zg K))(nE:zh P w K mg base 1 "ways_to_hold" ["names"] (Re K))(aQ:mg "range"=none):
  zh P w K mg base 43 "all_held" ["sayings"] (de K):=by
 refine D.callee sc_allheld (λvs H Q E h=>?_) λf cdv A outer s H vs Q E hr h=>?_
 ·obtain⟨a,us,ts,xs,rfl,_⟩:=h
  rfl
 have nd:=sc_allheld.nd;obtain⟨a,us,ts,xs,rfl,ha,hS,hL,q⟩:=h;refine⟨[some (.ref a),none],_,rfl,(zz (zn 1 nd (zg jE hr (by lia) (z9 (z8 0) z4)))
  (zx (zk (vx (ixs:=[1]) (xq (own:=["number"]) (N:=["names"]) rfl rfl rfl rfl rfl rfl rfl (by decide +kernel) rfl rfl rfl) rfl (vm rfl aQ (z9 (zg nE hr (by lia) (z9 (z8 1) z4)) z4)) (λ_ _ _ _=>v8) (λ_ _ _ _=>(zg AH hr (by lia) (z9 (z8 0) (z9 (z8 1) z4)))) rfl)))),?_⟩
 walk_at"rp";refine⟨a,us,ts,xs,rfl,ha,hS,hL,λb H1 ss s1 hb hN=>?_⟩;obtain⟨hss,hsn⟩:=hL.names hN;have p5:=Ku hss;have p5':((2 ^ ss.length:Nat):Int)<=32:=Int.ofNat_le.mpr p5;have p50:(0:Int)<=((2 ^ ss.length:Nat):Int):=Int.natCast_nonneg _;walk_at"rp";refine⟨b,ss,rfl,hb,by lia,?_⟩;walk_at"rp";refine⟨⟨by lia,by lia⟩,?_⟩;rw[wR];intro C s₀ H₀ ex;refine pq (λD i ys H2=>∃as:List Addr,ys=as.map V.ref/\as.length=i/\(∀(n:Nat) c,as[n]?=some c->SqT K H2 c ((yb (n:Int) ss).map V.str))/\H2 D=some (.lst ys)/\Same H1 H2/\H1 D=none) (by rw[yZ];lia) ?_ ?_ ?_ ?_
 ·intro D H2 n2 s2 e2;exact⟨[],rfl,rfl,λn c hc=>by simp at hc,e2,s2,n2⟩
 ·rintro D i ys H2 ⟨as,rfl,hl,_,e2,_⟩;exact⟨e2,by simpa using hl⟩
 ·rintro D i ys H2 hi ⟨as,rfl,hl,hc,e2,s2,n2⟩;walk_at"rp";refine⟨_,b,ss,rfl,(zw s2).sqT hb,by lia,λr H3 s3 h3=>⟨s3 _ _ e2,CN.mk hi ⟨as++[r],by rw[yM];rfl,by rw[zE,hl];rfl,λn c hn=>?_,zu,zf (s2.trans s3) n2 _,n2⟩⟩⟩;have tl:=sj (o:=.lst (as.map V.ref++[V.ref r])) (s3 _ _ e2)
  by_cases bA:n<as.length
  ·rw[wW bA]at hn;exact tl.sqT ((zw s3).sqT (hc n c hn))
  ·rw[wB (by lia)]at hn;have hnz:n-as.length=0:=by
    cases h9:n-as.length with
    |zero=>rfl
    |succ m=>rw[h9]at hn;simp at hn
   rw[hnz]at hn;cases hn;have:n=i:=by lia
   subst this;rw[Int.zero_add]at h3;exact tl.sqT h3
 ·rintro D ys H2 ⟨as,rfl,hl,hc,e2,s2,n2⟩;exact q D H2 ss as (y9 s1 n2) (s1.trans s2) e2 hN hl hc
def Vr(K:W.Frag):Sp:=λvs H Q _=>∃(a h:Addr)(us:List V)(ts:List Say)(xs hs:List Str),vs=[.ref a,.ref h]/\SqT K H a us/\SaysAt K H us ts/\Lst ts xs/\SqT K H h (hs.map V.str)/\∀(p:Addr)(H':Hp),Same H H'->SqT K H' p ((cx ts hs).map V.bl)->Q (.ref p) H'
theorem sc_rowof:zm ["sayings","held"] ["sayings","held"] (zy (top 18)):=⟨rfl,rfl,rfl,by decide +kernel,rfl,by decide +kernel,by decide +kernel⟩
theorem Py(D:Def K mg "row_of" (top 18) ["sayings","held"])(jM:zh P w K mg base 40 "is_so" ["saying","held"] (Fq K 40))(aH:mg "tuple"=none):zh P w K mg base 41 "row_of" ["sayings","held"] (Vr K):=by
 refine D.callee sc_rowof (λvs H Q E h=>?_) λf cdv A outer s H vs Q E hr h=>?_
 ·obtain⟨a,h,us,ts,xs,hs,rfl,_⟩:=h
  rfl
 have nd:=sc_rowof.nd;obtain⟨a,h,us,ts,xs,hs,rfl,ha,hS,hL,hh,q⟩:=h;have hl:=hS.len;have h6:=hL.hi;refine⟨[some (.ref a),some (.ref h)],_,rfl,(zx (zk (xh uy rfl aH xn (z9 (vx (ixs:=[1]) (xq (own:=["saying"]) (N:=["held"]) rfl rfl rfl rfl rfl rfl rfl (by decide +kernel) rfl rfl rfl) rfl (wt (z8 0)) (λ_ _ _ _=>v8) (λ_ _ _ _=>(zg jM hr (by lia) (z9 (z8 0) (z9 (z8 1) z4)))) rfl) z4)))),?_⟩;walk_at"rp";refine .inr ⟨⟨_,ha⟩,λC s₀ H₀ ex=>?_⟩;refine fo (xs:=us) (λD i ys H2=>ys=((ts.take i).map λt=>t.so hs).map V.bl/\i<=us.length/\H2 D=some (.lst ys)/\Same H H2/\H D=none) (by rw[yZ];lia) ?_ ?_ ?_ ?_
 ·intro D H2 n2 s2 e2;exact⟨rfl,yJ _,e2,s2,n2⟩
 ·rintro D i ys H2 ⟨rfl,hi,e2,s2,_⟩;exact⟨(zw s2).sqT ha,e2,by simp;lia⟩
 ·rintro D i v ys H2 hv ⟨rfl,hi,e2,s2,n2⟩;obtain⟨t,ht,sv⟩:=hS.at i v hv;walk_at"rp";refine⟨v,h,t,hs,rfl,sv.mono (zw s2),hL.pc t (zB ht),(zw s2).sqT hh,e2,CN.mk (zR.mp hv).1 ⟨?_,(zR.mp hv).1,zu,zf s2 n2 _,n2⟩⟩;rw[xU,ht];simp
 ·rintro D ys H2 ⟨rfl,hi,e2,s2,n2⟩;rw[hl,xW]at e2;exact⟨_,.inl (SqL.of e2),λp H3 s3 h3=>q p H3 (s2.trans s3) h3⟩
def dg(K:W.Frag):Sp:=λvs H Q _=>∃(a:Addr)(us:List V)(ts:List Say)(xs:List Str),vs=[.ref a]/\SqT K H a us/\SaysAt K H us ts/\Lst ts xs/\∀(p:Addr)(H':Hp)(ss:List Str)(R:List (Addr×List Bool)),H p=none->Same H H'->H' p=some (.lst (R.map λr=>V.ref r.1))->(∀r∈R,SqT K H' r.1 (r.2.map V.bl))->NamesOf ts ss->FitRows ts ss (R.map (·.2))->R.length<=32->Q (.ref p) H'
theorem sc_fitrows:zm ["sayings"] ["sayings"] (zy (top 19)):=⟨rfl,rfl,rfl,by decide +kernel,rfl,by decide +kernel,by decide +kernel⟩
theorem Xh(D:Def K mg "fit_rows" (top 19) ["sayings"])(rW:zh P w K mg base 43 "all_held" ["sayings"] (de K))(CD:zh P w K mg base 41 "row_of" ["sayings","held"] (Vr K))(aV:mg "sorted"=none)(cA:mg "set"=none):
  zh P w K mg base 44 "fit_rows" ["sayings"] (dg K):=by
 refine D.callee sc_fitrows (λvs H Q E h=>?_) λf cdv A outer s H vs Q E hr h=>?_
 ·obtain⟨a,us,ts,xs,rfl,_⟩:=h
  rfl
 have nd:=sc_fitrows.nd;obtain⟨a,us,ts,xs,rfl,ha,hS,hL,q⟩:=h;refine⟨[some (.ref a)],_,rfl,(zx (zk (ux rfl hr.units rfl aV rfl cA (vx (ixs:=[0]) (xq (own:=["held"]) (N:=["sayings"]) rfl rfl rfl rfl rfl rfl rfl (by decide +kernel) rfl rfl rfl) rfl (wt (zg rW hr (by lia) (z9 (z8 0) z4))) (λ_ _ _ _=>v8) (λ_ _ _ _=>(zg CD hr (by lia) (z9 (z8 1) (z9 (z8 0) z4)))) rfl)))),?_⟩;walk_at"rp";refine⟨a,us,ts,xs,rfl,ha,hS,hL,λb H1 ss as nb s1 hb hN has UU=>?_⟩;obtain⟨hss,hsn⟩:=hL.names hN;have p5:=Ku hss;walk_at"rp";refine .inl ⟨⟨_,SqL.of hb⟩,λC s₀ H₀ ex=>?_⟩;refine Yg (xs:=as.map V.ref) (λD i ys H2=>∃R:List (Addr×List Bool),ys=(R.map λr=>V.ref r.1)/\R.map (·.2)=(List.range i).map (λ(n:Nat)=>cx ts (yb (n:Int) ss))/\(∀r∈R,SqT K H2 r.1 (r.2.map V.bl))/\H2 D=some (.lst ys)/\Same H1 H2/\H1 D=none) (by rw[zV,yZ];lia) ?_ ?_ ?_ ?_
 ·intro D H2 n2 s2 e2;exact⟨[],rfl,rfl,λr hr=>by simp at hr,e2,s2,n2⟩
 ·rintro D i ys H2 ⟨R,rfl,hR,_,e2,s2,_⟩;refine⟨SqL.of (s2 _ _ hb),e2,?_⟩;have:=xH List.length hR;simpa using this
 ·rintro D i v ys H2 hv ⟨R,rfl,hR,hT,e2,s2,n2⟩;rw[yI]at hv;cases hc:as[i]? with
  |none=>rw[hc]at hv;cases hv
  |some c =>
   rw[hc]at hv;cases hv;have hi:i<as.length:=(zR.mp hc).1;walk_at"rp";refine⟨a,c,us,ts,xs,_,rfl,(zw (s1.trans s2)).sqT ha,hS.mono (zw (s1.trans s2)),hL,(zw s2).sqT (UU i c hc),λp H3 s3 h3=>⟨s3 _ _ e2,CN.mk (by rw[zV];exact hi) ⟨R++[(p,cx ts (yb (i:Int) ss))],by rw[yM];rfl,?_,λr hr=>?_,zu,zf (s2.trans s3) n2 _,n2⟩⟩⟩
   ·rw[yM,hR,List.range_succ,yM]
    rfl
   ·have tl:=sj (o:=.lst ((R.map λr=>V.ref r.1)++[V.ref p])) (s3 _ _ e2);rcases zK.mp hr with hr|hr
    ·exact tl.sqT ((zw s3).sqT (hT r hr))
    ·rw[zX.mp hr];exact tl.sqT h3
 ·rintro D ys H2 ⟨R,rfl,hR,hT,e2,s2,n2⟩;rw[zV,has]at hR;have hRl:R.length=2 ^ ss.length:=by
   have:=xH List.length hR;simpa using this
  refine .inr ⟨R,SqL.of e2,λr hr=>⟨hT r hr,?_⟩,by lia,λR' BL EQ kG gY ET p H3 n3 s3 e3=>?_⟩
  ·have:r.2∈R.map (·.2):=yH hr;rw[hR]at this;obtain⟨n,_,e⟩:=yW.mp this;intro z;rw[<-e]at z;have h1:=cz ts (yb (n:Int) ss);rw[z]at h1;have:=hL.lo;simp at h1;lia
  ·refine q p H3 ss R' (y9 (s1.trans s2) n3) (s1.trans (s2.trans s3)) e3 (λr hr=>(zw s3).sqT (hT r (BL r hr))) hN ⟨EQ,λk=>?_,gY⟩ (by lia);rw[kG k,hR,yW];constructor
   ·rintro⟨n,hn,rfl⟩;exact⟨n,xL.mp hn,rfl⟩
   ·rintro⟨n,hn,rfl⟩;exact⟨n,xL.mpr hn,rfl⟩
def Zi(K:W.Frag)(n:Nat):Sp:=λvs H Q _=>∃(v:V)(s:Say),vs=[v]/\SayAt K H v s/\s.pieces<=n/\∀H',Same H H'->Q (.int s.pieces) H'
theorem sc_pieces:zm ["saying","pieces","inner"] ["saying"] (zy (top 8)):=⟨rfl,rfl,rfl,by decide +kernel,rfl,by decide +kernel,by decide +kernel⟩
theorem ck(D:Def K mg "pieces_in" (top 8) ["saying"]):∀n:Nat,zh P w K mg base n "pieces_in" ["saying"] (Zi K n)
 |0=>v7 D λvs H Q E h=>by
  obtain⟨v,s,_,_,hp,_⟩:=h;exact absurd s.pieces_pos (by lia)
 |n+1=>by
  have gU:=ck D n;refine D.callee sc_pieces (λvs H Q E h=>?_) λf cdv A outer s H vs Q E hr h=>?_
  ·obtain⟨v,s,rfl,_⟩:=h
   rfl
  have nd:=sc_pieces.nd;obtain⟨v,s,rfl,hv,hp,q⟩:=h;refine⟨[some v,none,none],_,rfl,(zz (za (zc (wb hr.units) (vy (z8 0) zv (λ_ _=>rfl)) z7 (ze _)) (zx (zk zv)) zi)
  (zz (zn 1 nd zv)
  (zz (uk xV rfl (wt (vz (z8 0) (uo zv) vb)) (ve 2 nd) (zx (zn 1 nd (z6 z5 (z8 1) (zg gU hr (by lia) (z9 (z8 2) z4))))))
  (zx (zk (z8 1)))))),?_⟩
  by_cases hs:s.subs=[]
  ·cases s with
   |letter x =>
    obtain⟨a,rfl,ha⟩:=hv;walk_at"rp";refine⟨_,_,.inr ha,rfl,?_⟩;walk_at"rp";exact q H (Same.refl H)
   |neg t=>simp[Say.subs]at hs
   |bin o t t'=>simp[Say.subs]at hs
  ·obtain⟨a,wd,us,rfl,ha,hw,hl,sK,hu⟩:=Zb hv hs;walk_at"rp";refine⟨_,_,.inr ha,Ul _ _,?_⟩;walk_at"rp";rw[hw];walk_at"rp";refine .inr ⟨_,ha,λp H1 s1 h1=>.inr ⟨⟨_,h1⟩,?_⟩⟩;rw[Yh]at h1;refine uj (xs:=us) (λi σ H2=>∃iv,σ=[some (.ref a),some (.int (1+((s.subs.take i).map Say.pieces).sum:Nat)),iv]/\Same H1 H2/\i<=us.length) ⟨none,rfl,Same.refl _,yJ _⟩ ?_ ?_ ?_
   ·rintro i σ H2 _ ⟨iv,rfl,s2,_⟩;exact(zw s2).sqT h1
   ·rintro i x σ H2 hx ⟨iv,rfl,s2,hi⟩;obtain⟨t,ht,sv,pc⟩:=hu i x hx;walk_at"rp";refine⟨x,t,rfl,sv.mono (zw (s1.trans s2)),by lia,λH3 s3=>?_⟩;walk_at"rp";refine⟨some x,?_,s2.trans s3,(zR.mp hx).1⟩;rw[xU,ht];simp;lia
   ·rintro σ H2 ⟨iv,rfl,s2,_⟩;walk_at"rp";rw[hl,xW,<-nn];exact q H2 (s1.trans s2)
structure V1(ts:List Say)(xs:List Str):Prop where
 hi:ts.length<=7
 nm:∀x∈rk ts,x∈xs
 xl:xs.length<=60
 ok:∀x∈xs,Nm x
theorem Lst.toW{ts:List Say}{xs:List Str}(h:Lst ts xs):V1 ts xs:=⟨by have:=h.hi;lia,h.nm,by have:=h.xl;lia,h.ok⟩
def Zh(K:W.Frag):Sp:=λvs H Q _=>∃(a:Addr)(us:List V)(ts:List Say)(xs:List Str),vs=[.ref a]/\SqT K H a us/\SaysAt K H us ts/\V1 ts xs/\(∀t∈ts,t.pieces<=40)/\∀(p:Addr)(H':Hp)(ss:List Str),Same H H'->SqT K H' p (ss.map V.str)->NamesOf ts ss->Q (.ref p) H'
theorem sc_namesw:zm ["sayings","names","saying"] ["sayings"] (zy (top 16)):=⟨rfl,rfl,rfl,by decide +kernel,rfl,by decide +kernel,by decide +kernel⟩
theorem Tj(D:Def K mg "names_of" (top 16) ["sayings"])(jF:zh P w K mg base 41 "names_in" ["saying"] (om K))(aV:mg "sorted"=none)(cA:mg "set"=none)(aH:mg "tuple"=none):zh P w K mg base 42 "names_of" ["sayings"] (Zh K):=by
 refine D.callee sc_namesw (λvs H Q E h=>?_) λf cdv A outer s H vs Q E hr h=>?_
 ·obtain⟨a,us,ts,xs,rfl,_⟩:=h
  rfl
 have nd:=sc_namesw.nd;obtain⟨a,us,ts,xs,rfl,ha,hS,hL,HC,q⟩:=h;have hl:=hS.len;refine⟨[some (.ref a),none,none],_,rfl,(zz (zn 1 nd (zd z4))
  (zz (uk xV rfl (wt (z8 0)) (ve 2 nd) (zx (yi (S5 vM uA W0 (z8 1) (z9 (zg jF hr (by lia) (z9 (z8 2) z4)) z4)))))
  (zx (zk (xh uy rfl aH xn (z9 (ux rfl hr.units rfl aV rfl cA (z8 1)) z4)))))),?_⟩
 walk_at"rp";refine⟨zt (by simp),λr H1 n1 s1 e1=>?_⟩;walk_at"rp";refine .inr ⟨⟨_,(zw s1).sqT ha⟩,uj (xs:=us) (λi σ H2=>∃(cW:List Str)(iv:Option V),σ=[some (.ref a),some (.ref r),iv]/\H2 r=some (.lst (cW.map V.str))/\(∀x,x∈cW↔x∈rk (ts.take i))/\cW.length<=40*i/\Same H H2) ⟨[],none,rfl,e1,by simp[rk],by simp,s1⟩ ?_ ?_ ?_⟩
 ·rintro i σ H2 _ ⟨cW,iv,rfl,_,_,_,s2⟩;exact(zw s2).sqT ha
 ·rintro i x σ H2 hx ⟨cW,iv,rfl,e2,hm,hc,s2⟩;obtain⟨t,ht,sv⟩:=hS.at i x hx;have GY:=zB ht;have hi:i<us.length:=(zR.mp hx).1;have h6:=hL.hi;walk_at"rp";refine⟨⟨_,_,rfl,e2⟩,x,t,rfl,sv.mono (zw s2),HC t GY,λp H3 ss s3 hp nds kG _=>?_⟩;walk_at"rp";have EM:ss.length<=40:=yQ (wq nds λy hy=>(kG y).mp hy) (yQ (ye t) (HC t GY));refine⟨_,_,s3 _ _ e2,.inr hp,by rw[zV,zV,yZ];lia,cW++ss,some x,rfl,by rw[zu,yM],λy=>?_,by rw[zE];lia,zf (s2.trans s3) n1 _⟩;rw[zK,hm y,kG y,be ht,zK]
 ·rintro σ H2 ⟨cW,iv,rfl,e2,hm,hc,s2⟩;rw[hl,xW]at hm;have h6:=hL.hi;walk_at"rp";refine .inl ⟨_,.inl (SqL.of e2),by unfold scanBound;lia,λdL hn hs=>?_,λdL hn hmm gY p H3 n3 s3 e3=>?_⟩
  ·have:=wq hn λy hy=>hL.nm y ((hm y).mp (hs y hy));have:=hL.xl;lia
  ·walk_at"rp";exact⟨_,.inl (SqL.of e3),λp' H4 s4 h4=>q p' H4 dL (s2.trans (s3.trans s4)) h4 ⟨hn,λy=>(hmm y).trans (hm y),gY⟩⟩
def okB(ts:List Say)(n:Nat):Prop:=(1<=ts.length/\ts.length<=6)/\(1<=n/\n<=21)/\(∀t∈ts,t.pieces<=40)/\∀ss,NamesOf ts ss->ss.length<=5
def noB(ts:List Say)(n:Nat):Prop:=ts.length<1\/6<ts.length\/n<1\/21<n\/(∃t∈ts,40<t.pieces)\/∀ss,NamesOf ts ss->5<ss.length
def OobE(Co:Addr)(H:Hp)(E:XK):Prop:=∀(a:Addr)(H':Hp),Same H H'->H' a=some (exO a Co none false)->E (.ref a) none H'
def Fp(K:W.Frag)(Co:Addr):Sp:=λvs H Q E=>∃(b j:Addr)(us ws:List V)(ts:List Say)(xs:List Str),vs=[.ref b,.ref j]/\SqT K H b us/\SaysAt K H us ts/\SqT K H j ws/\V1 ts xs/\(∀t∈ts,t.pieces<=130)/\ws.length<=2000/\((okB ts ws.length/\∀H',Same H H'->Q .non H')\/(noB ts ws.length/\OobE Co H E))
theorem sc_cb:zm ["sayings","judges"] ["sayings","judges"] (zy (top 25)):=⟨rfl,rfl,rfl,by decide +kernel,rfl,by decide +kernel,by decide +kernel⟩
theorem D8{Co:Addr}{t1 t2 t3 t4:Tok}(D:Def K mg "check_bounds" (top 25) ["sayings","judges"])(gU:zh P w K mg base 130 "pieces_in" ["saying"] (Zi K 130))(jE:zh P w K mg base 42 "names_of" ["sayings"] (Zh K))(aT:v9 K Co)(aM:mg "OutOfBounds"=some (.ref Co))(cB:mg "MOST_SAYINGS"=some (.int 6 t1))(dJ:mg "MOST_NAMES"=some (.int 5 t2))(aS:mg "MOST_PIECES"=some (.int 40 t3))(cR:mg "MOST_JUDGES"=some (.int 21 t4))(aD:mg "len"=none)(qU:mg "any"=none):yu P w K mg base 131 "check_bounds" ["sayings","judges"] (Fp K Co):=by
 refine D.calleeX sc_cb (λvs H Q E h=>?_) λf cdv A outer s H vs Q E hr h=>?_
 ·obtain⟨b,j,us,ws,ts,xs,rfl,_⟩:=h
  rfl
 have nd:=sc_cb.nd;obtain⟨b,j,us,ws,ts,xs,rfl,hb,hT,hj,hL,HC,hw,hq⟩:=h;have qn:¬okB ts ws.length->OobE Co H E:=λno=>hq.elim (λz=>absurd z.1 no) λz=>z.2;have hul:=hT.len;have h7:=hL.hi;have oob:∀{H1:Hp}{a:Addr},Same H H1->H1 a=none->¬okB ts ws.length->E (.ref a) none (upd (upd H1 a (exO a Co none true)) a (exO a Co none false)):=λ{H1 a} s1 na no=>qn no a _ (zf (zf s1 (y9 s1 na) _) (y9 s1 na) _) zu;refine⟨[some (.ref b),some (.ref j)],_,rfl,(zz (za (PW.pt (su (zc S6 (zq ya rfl aD yp (z9 (z8 0) z4)) zv (ze _)) (ud (zc W2 (zq ya rfl aD yp (z9 (z8 0) z4)) (qz cB) (ze _))))) (zx (yr (xt aT aM (z9 z7 z4)) xm rfl)) zi)
  (zz (za (PW.pt (su (zc S6 (zq ya rfl aD yp (z9 (z8 1) z4)) zv (ze _)) (ud (zc W2 (zq ya rfl aD yp (z9 (z8 1) z4)) (qz cR) (ze _))))) (zx (yr (xt aT aM (z9 z7 z4)) xm rfl)) zi)
  (zz (za (xw (zq (Dr rfl) rfl qU Gn (z9 (vx (ixs:=[]) (xq (own:=["saying"]) (N:=[]) rfl rfl rfl rfl rfl rfl rfl (by decide +kernel) rfl rfl rfl) rfl (wt (z8 0)) (λ_ _ _ _=>v8) (λ_ _ _ _=>(va W2 (zg gU hr (by lia) (z9 (z8 0) z4)) (qz aS) (ze _))) rfl) z4))) (zx (yr (xt aT aM (z9 z7 z4)) xm rfl)) zi)
  (zx (za (zc W2 (zq ya rfl aD yp (z9 (zg jE hr (by lia) (z9 (z8 0) z4)) z4)) (qz dJ) (ze _)) (zx (yr (xt aT aM (z9 z7 z4)) xm rfl)) zi))))),?_⟩
 have jR:∀{H1:Hp}{x:Str},Same H H1->¬okB ts ws.length->([V.str x].length<=sizeLine/\∀a,H1 a=none->∃oV C dx,V.ref a=V.ref oV/\upd H1 a (exO a Co none true) oV=some (exO oV C dx true)/\XCls K C/\E (Value.ref oV) dx (upd (upd H1 a (exO a Co none true)) oV (exO oV C dx false))):=λ{H1 x} s1 no=>⟨by simp only[yL,wH];rw[yZ];decide,λa na=>⟨a,Co,none,rfl,zu,aT.x,oob s1 na no⟩⟩
 walk_at"rp";refine⟨_,.inr hb,?_⟩;rw[hul];refine xi (λc=>?_) λc=>?_
 ·exact jR (Same.refl _) λo=>by have:=o.1.1;have:=zF c;lia
 refine⟨_,.inr hb,?_⟩;rw[hul];refine xi (λc2=>?_) λc2=>?_
 ·exact jR (Same.refl _) λo=>by have:=o.1.2;have:=zF c2;lia
 have ES:1<=ts.length:=by
  rcases wE ts.length 1 with z|z
  ·exact absurd (zI (by lia)) c
  ·exact z
 have h6:ts.length<=6:=by
  rcases wE 6 ts.length with z|z
  ·exact absurd (zI (by lia)) c2
  ·exact z
 walk_at"rp";refine⟨_,.inr hj,?_⟩;refine xi (λc3=>?_) λc3=>?_
 ·exact jR (Same.refl _) λo=>by have:=o.2.1.1;have:=zF c3;lia
 refine⟨_,.inr hj,?_⟩;refine xi (λc4=>?_) λc4=>?_
 ·exact jR (Same.refl _) λo=>by have:=o.2.1.2;have:=zF c4;lia
 have hw1:1<=ws.length:=by
  rcases wE ws.length 1 with z|z
  ·exact absurd (zI (by lia)) c3
  ·exact z
 have hw21:ws.length<=21:=by
  rcases wE 21 ws.length with z|z
  ·exact absurd (zI (by lia)) c4
  ·exact z
 walk_at"rp";refine .inr ⟨⟨_,hb⟩,λC s₀ H₀ ex=>?_⟩;refine fo (xs:=us) (λD i ys H2=>ys=((ts.take i).map λt=>decide (40<(t.pieces:Int))).map V.bl/\i<=ts.length/\H2 D=some (.lst ys)/\Same H H2/\H D=none) (by rw[hul,yZ];lia) ?_ ?_ ?_ ?_
 ·intro D H2 n2 s2 e2;exact⟨rfl,yJ _,e2,s2,n2⟩
 ·rintro D i ys H2 ⟨rfl,hi,e2,s2,_⟩;exact⟨(zw s2).sqT hb,e2,by simp;lia⟩
 ·rintro D i v ys H2 hv ⟨rfl,hi,e2,s2,n2⟩;obtain⟨t,ht,sv⟩:=hT.at i v hv;have GY:=zB ht;have bA:i<ts.length:=(zR.mp ht).1;walk_at"rp";refine⟨v,t,rfl,sv.mono (zw s2),HC t GY,λH3 s3=>?_⟩;walk_at"rp";refine⟨s3 _ _ e2,CN.mk (by lia) ⟨?_,bA,zu,zf (s2.trans s3) n2 _,n2⟩⟩;rw[xU,ht,yM,yM]
  rfl
 rintro D1 ys1 H1 ⟨rfl,_,e1,s1,n1⟩;rw[hul,xW]at e1;walk_at"rp";refine⟨_,SqL.of e1,?_⟩;refine xi (λc5=>?_) λc5=>?_
 ·refine jR s1 λo=>?_;obtain⟨b',fB,e'⟩:=wX.mp c5;obtain⟨t,ht,rfl⟩:=yW.mp fB;have h1:=o.2.2.1 t ht;have h2:=zF e';lia
 have UK:∀t∈ts,t.pieces<=40:=λt ht=>by
  rcases wE 40 t.pieces with z|z
  ·exact absurd (show(ts.map λt=>decide (40<(t.pieces:Int))).any id=true from wX.mpr ⟨true,yW.mpr ⟨t,ht,zI (by lia)⟩,rfl⟩) c5
  ·exact z
 walk_at"rp";refine⟨b,us,ts,xs,rfl,(zw s1).sqT hb,hT.mono (zw s1),hL,UK,λp H2 ss s2 hp hN=>?_⟩;walk_at"rp";refine⟨_,.inr hp,?_⟩;rw[zV];refine xi (λc6=>?_) λc6=>?_
 ·exact jR (s1.trans s2) λo=>by have:=o.2.2.2 ss hN;have:=zF c6;lia
 ·have h5:ss.length<=5:=by
   rcases wE 5 ss.length with z|z
   ·exact absurd (zI (by lia)) c6
   ·exact z
  refine hq.elim (λz=>z.2 H2 (s1.trans s2)) λz=>?_;rcases z.1 with z|z|z|z|⟨t,ht,z⟩|z
  ·lia
  ·lia
  ·lia
  ·lia
  ·have:=UK t ht;lia
  ·have:=z ss hN;lia
def Vn(K:W.Frag):Sp:=λvs H Q _=>∃(r:Addr)(v:V)(R:List (Addr×List Bool))(d:PyData),vs=[.ref r,v]/\H r=some (.lst (R.map λq=>V.ref q.1))/\(∀q∈R,SqT K H q.1 (q.2.map V.bl))/\R.length<=32/\Has K H v d/\PyData.canLay0 d=true /\
 (((R.map (·.2)).any λk=>PyData.eqv (ur k) d)=false->∀H',Same H H'->Q (.bl false) H') /\
 (((R.map (·.2)).any λk=>PyData.eqv (ur k) d)=true->∃(a:Addr)(zs:List V)(gs:List Bool),v = .ref a/\SqT K H a zs/\zs.length<=100/\gs.length=zs.length/\(∀(i:Nat) z g,zs[i]?=some z->gs[i]?=some g->(∃b,z = .bl b/\g=true)\/∃n,z = .int n/\g=false)/\∀H',Same H H'->Q (.bl (gs.all id)) H')
theorem sc_among:zm ["rows","row"] ["rows","row"] (zy (top 26)):=⟨rfl,rfl,rfl,by decide +kernel,rfl,by decide +kernel,by decide +kernel⟩
theorem Su:W.kitOne K (.type "int") (.type "bool")=some false:=by rfl
theorem wx(c:String):W.kitOne K (.type c) (.type c)=some true:=by
 unfold W.kitOne;rw[zG (uJ _)]
theorem Pq(D:Def K mg "is_among" (top 26) ["rows","row"])(qV:mg "all"=none)(aA:mg "isinstance"=none)(cQ:mg "bool"=none):zh P w K mg base 1 "is_among" ["rows","row"] (Vn K):=by
 refine D.callee sc_among (λvs H Q E h=>?_) λf cdv A outer s H vs Q E hr h=>?_
 ·obtain⟨r,v,R,d,rfl,_⟩:=h
  rfl
 have nd:=sc_among.nd;obtain⟨r,v,R,d,rfl,hr0,hR,h32,hd,hc,qn,qy⟩:=h;refine⟨[some (.ref r),some v],_,rfl,(zx (zk (ce (va (Ds hr.units) (z8 1) (z8 0) (by with_unfolding_all rfl)) (p0 (zq (Dq rfl) rfl qV Gm (z9 (vx (ixs:=[]) (xq (own:=["truth"]) (N:=[]) rfl rfl rfl rfl rfl rfl rfl (by decide +kernel) rfl rfl rfl) rfl (wt (z8 1)) (λ_ _ _ _=>v8) (λ_ _ _ _=>(zq ul rfl aA zo (z9 (z8 0) (z9 (yc (v:=.ty "bool") rfl cQ lu rfl) z4)))) rfl) z4)))))),?_⟩;walk_at"rp";have HI:=fw (R.map (·.2));refine⟨d,(R.map (·.2)).map ur,hd,(by unfold Has;exact⟨r,_,rfl,SqL.of hr0,nt hR⟩),hc,HI.1,by have:=HI.2;lia,?_⟩;rw[List.any_map];rw[show((R.map (·.2)).any ((λy=>PyData.eqv y d)∘ur))=((R.map (·.2)).any λk=>PyData.eqv (ur k) d)from rfl];cases hb:((R.map (·.2)).any λk=>PyData.eqv (ur k) d)with
 |false =>
  walk_at"rp";exact qn hb H (Same.refl _)
 |true =>
  obtain⟨a,zs,gs,rfl,ha,hz,EU,hk,q⟩:=qy hb;walk_at"rp";refine .inr ⟨⟨_,ha⟩,λC s₀ H₀ ex=>?_⟩;refine fo (xs:=zs) (λD i ys H2=>ys=(gs.take i).map V.bl/\i<=gs.length/\H2 D=some (.lst ys)/\Same H H2/\H D=none) (by rw[yZ];lia) ?_ ?_ ?_ ?_
  ·intro D H2 n2 s2 e2;exact⟨rfl,yJ _,e2,s2,n2⟩
  ·rintro D i ys H2 ⟨rfl,hi,e2,s2,_⟩;exact⟨(zw s2).sqT ha,e2,by simp;lia⟩
  ·rintro D i z ys H2 hv ⟨rfl,hi,e2,s2,n2⟩;have bA:i<zs.length:=(zR.mp hv).1;obtain⟨g,hg⟩:∃g,gs[i]?=some g:=⟨_,yG (by lia)⟩
   have cJ:∀g',g'=g->(H2 D=some (.lst ((gs.take i).map V.bl))/\CN zs.length i ((gs.take i).map V.bl++[V.bl g']=(gs.take (i+1)).map V.bl/\i+1<=gs.length/\upd H2 D (.lst ((gs.take i).map V.bl++[V.bl g'])) D=some (.lst ((gs.take i).map V.bl++[V.bl g']))/\Same H (upd H2 D (.lst ((gs.take i).map V.bl++[V.bl g'])))/\H D=none)):=λg' e=>by
    subst e;refine⟨e2,CN.mk bA ⟨?_,by lia,zu,zf s2 n2 _,n2⟩⟩;rw[xU,hg,yM]
    rfl
   rcases hk i z g hv hg with⟨b,rfl,rfl⟩|⟨n,rfl,rfl⟩
   ·walk_at"rp";refine⟨_,true,.of (.bl _),wx _,?_⟩;exact cJ true rfl
   ·walk_at"rp";refine⟨_,false,.of (.int _),Su,?_⟩;exact cJ false rfl
  ·rintro D ys H2 ⟨rfl,hi,e2,s2,n2⟩;rw[<-EU,xW]at e2;walk_at"rp";exact⟨gs,SqL.of e2,q H2 s2⟩
def df(K:W.Frag)(C:Addr):Sp:=λvs H Q _=>∃(a:Addr)(v:V)(n:Bool),vs=[.ref a,v]/\H a=some (exO a C none n)/\∀dx,H dx=none->Q .non (upd (upd H dx (.xd [("number",v)])) a (exO a C (some dx) n))
theorem sc_badrow:zm ["self","number"] ["self","number"] (zy (zb (top 4) 0)):=⟨rfl,rfl,rfl,by decide +kernel,rfl,by decide +kernel,by decide +kernel⟩
theorem Xf{C:Addr}(D:DefI K C "BadRow.__init__" (zb (top 4) 0) ["self","number"])(xb:XCls K C)(ht:W.takerIn K C "number"=some none):ln P w K mg base 1 C ["self","number"] (df K C):=by
 refine D.callee sc_badrow (λvs H Q E h=>?_) λf cdv A outer s H vs Q E hr h=>?_
 ·obtain⟨a,v,n,rfl,_⟩:=h
  rfl
 have nd:=sc_badrow.nd;obtain⟨a,v,n,rfl,ea,q⟩:=h;refine⟨[some (.ref a),some v],_,rfl,(zx (Mt (z8 0) (z8 1) rfl)),?_⟩;walk_at"rp";exact⟨a,C,n,rfl,ea,xb,ht,q⟩
def Jdg(K:W.Frag)(H:Hp)(R:List (List Bool))(v:V)(g:Bool):Prop:=∃d,Has K H v d/\PyData.canLay0 d=true /\
 (((R.any λk=>PyData.eqv (ur k) d)=false/\g=false)\/((R.any λk=>PyData.eqv (ur k) d)=true/\∃(a:Addr)(zs:List V)(gs:List Bool),v = .ref a/\SqT K H a zs/\zs.length<=100/\gs.length=zs.length/\(∀(i:Nat) z g,zs[i]?=some z->gs[i]?=some g->(∃b,z = .bl b/\g=true)\/∃n,z = .int n/\g=false)/\g=gs.all id))
mutual
theorem Yq{H H':Hp}(s:Same H H'):∀(d:PyData)(v:V),Has K H v d->Has K H' v d
 | .none,v,h=>by simpa[Has]using h
 | .bool b,v,h=>by simpa[Has]using h
 | .int i,v,h=>by simpa[Has]using h
 | .str x,v,h=>by simpa[Has]using h
 | .tuple ds,v,h=>by
  have h':∃a xs,v = .ref a/\SqT K H a xs/\HasL K H xs ds:=by simpa[Has]using h
  obtain⟨a,xs,rfl,hq,hl⟩:=h';unfold Has;exact⟨a,xs,rfl,(zw s).sqT hq,hasL_same s ds xs hl⟩
 | .list ds,v,h=>by
  have h':∃a xs,v = .ref a/\SqL K H a xs/\HasL K H xs ds:=by simpa[Has]using h
  obtain⟨a,xs,rfl,hq,hl⟩:=h';unfold Has;exact⟨a,xs,rfl,s.seq hq,hasL_same s ds xs hl⟩
 | .dict _,v,h=>by
  have h':False:=by simpa[Has]using h
  exact h'.elim
theorem hasL_same{H H':Hp}(s:Same H H'):∀(ds:List PyData)(xs:List V),HasL K H xs ds->HasL K H' xs ds
 |[],xs,h=>by simpa[HasL]using h
 |d::ds,xs,h=>by
  have h':∃y ys,xs=y::ys/\Has K H y d/\HasL K H ys ds:=by simpa[HasL]using h
  obtain⟨y,ys,rfl,h1,h2⟩:=h';unfold HasL;exact⟨y,ys,rfl,Yq s d y h1,hasL_same s ds ys h2⟩
end
theorem Jdg.same{H H':Hp}{R:List (List Bool)}{v:V}{g:Bool}(s:Same H H')(h:Jdg K H R v g):Jdg K H' R v g:=by
 obtain⟨d,h1,h2,h3⟩:=h;refine⟨d,Yq s d v h1,h2,?_⟩;rcases h3 with h3|⟨h4,a,zs,gs,e,ha,r⟩
 ·exact .inl h3
 ·exact .inr ⟨h4,a,zs,gs,e,(zw s).sqT ha,r⟩
def BadE(Cr:Addr)(H:Hp)(n:Nat)(E:XK):Prop:=∀(a dx:Addr)(H':Hp),Same H H'->H' a=some (exO a Cr (some dx) false)->H' dx=some (.xd [("number",.int (n:Int))])->E (.ref a) (some dx) H'
def Jw(K:W.Frag)(Cr:Addr):Sp:=λvs H Q E=>∃(b j:Addr)(us ws:List V)(ts:List Say)(xs:List Str)(gs:List Bool),vs=[.ref b,.ref j]/\SqT K H b us/\SaysAt K H us ts/\Lst ts xs/\SqT K H j ws/\ws.length<=100/\gs.length=ws.length/\(∀ss R,NamesOf ts ss->FitRows ts ss R->∀(i:Nat) v g,ws[i]?=some v->gs[i]?=some g->Jdg K H R v g)/\((∀g∈gs,g=true)->∀H',Same H H'->Q .non H')/\(∀n,gs[n]?=some false->(∀g∈gs.take n,g=true)->BadE Cr H n E)
theorem sc_cr:zm ["sayings","judges","rows","number","row"] ["sayings","judges"] (zy (top 27)):=⟨rfl,rfl,rfl,by decide +kernel,rfl,by decide +kernel,by decide +kernel⟩
theorem D9{Cr:Addr}(D:Def K mg "check_rows" (top 27) ["sayings","judges"])(rV:zh P w K mg base 44 "fit_rows" ["sayings"] (dg K))(rU:zh P w K mg base 1 "is_among" ["rows","row"] (Vn K))(CH:ln P w K mg base 1 Cr ["self","number"] (df K Cr))(bQ:mg "BadRow"=some (.ref Cr))(xr:XCls K Cr)(dX:mg "enumerate"=none):yu P w K mg base 45 "check_rows" ["sayings","judges"] (Jw K Cr):=by
 refine D.calleeX sc_cr (λvs H Q E h=>?_) λf cdv A outer s H vs Q E hr h=>?_
 ·obtain⟨b,j,us,ws,ts,xs,gs,rfl,_⟩:=h
  rfl
 have nd:=sc_cr.nd;obtain⟨b,j,us,ws,ts,xs,gs,rfl,hb,hT,hL,hj,hw,EU,hJ,qy,qn⟩:=h;refine⟨[some (.ref b),some (.ref j),none,none,none],_,rfl,(zz (zn 2 nd (zg rV hr (by lia) (z9 (z8 0) z4)))
  (zx (ag rfl (Hr rfl dX (z9 (z8 1) z4)) (Kr 3 4 rfl nd) (zx (za (wu (xw (zg rU hr (by lia) (z9 (z8 2) (z9 (z8 4) z4))))) (zx (yr (Ht CH hr (by lia) bQ (z9 (z8 3) z4)) Vi rfl)) zi))))),?_⟩
 walk_at"rp";refine⟨b,us,ts,xs,rfl,hb,hT,hL,λp H1 ss R n1 s1 e1 hR hN hF h32=>?_⟩;walk_at"rp";refine⟨⟨_,(zw s1).sqT hj⟩,?_⟩;refine Wx (xs:=ws) (λi σ H2=>(∃x3 x4,σ=[some (.ref b),some (.ref j),some (.ref p),x3,x4])/\Same H1 H2/\∀g∈gs.take i,g=true) ⟨⟨_,_,rfl⟩,Same.refl _,λg hg=>by simp at hg⟩ ?_ ?_ ?_
 ·rintro i σ H2 _ ⟨_,s2,_⟩;exact(zw (s1.trans s2)).sqT hj
 ·rintro i v σ H2 H3 hv ⟨⟨x3,x4,rfl⟩,s2,cS⟩ s3;have hi:i<ws.length:=(zR.mp hv).1;obtain⟨g,hg⟩:∃g,gs[i]?=some g:=⟨_,yG (by lia)⟩
  have s13:=s2.trans s3;have s03:=s1.trans s13;obtain⟨d,h1,h2,h3⟩:=(hJ ss _ hN hF i v g hv hg).same s03;walk_at"rp";refine⟨p,v,R,d,rfl,s13 _ _ e1,λq hq=>(zw s13).sqT (hR q hq),h32,h1,h2,λno H4 s4=>?_,λAV=>?_⟩
  ·have eg:g=false:=by
    rcases h3 with h3|⟨h4,_⟩
    ·exact h3.2
    ·rw[no]at h4;cases h4
   subst eg;have AK:=s03.trans s4;walk_at"rp";refine⟨by rw[yZ];simp,λa ha=>⟨a,.int (i:Int),true,rfl,zu,λdx nN=>⟨rfl,a,Cr,some dx,rfl,zu,xr,?_⟩⟩⟩;have HN:dx≠a:=λz=>by rw[z,zu]at nN;cases nN
   have hd5:H4 dx=none:=by rw[zj HN]at nN;exact nN
   have s6:Same H4 (upd (upd (upd (upd H4 a (exO a Cr none true)) dx (.xd [("number",.int (i:Int))])) a (exO a Cr (some dx) true)) a (exO a Cr (some dx) false)):=zf (zf (zf (zf (Same.refl _) ha _) hd5 _) ha _) ha _;exact qn i hg cS a dx _ (AK.trans s6) zu (by rw[zj HN,zj HN,zu])
  ·rcases h3 with⟨h4,_⟩|⟨_,a,zs,gz,e,ha,hz,hgz,hk,eg⟩
   ·rw[AV]at h4;cases h4
   refine⟨a,zs,gz,e,ha,hz,hgz,hk,λH4 s4=>?_⟩;have AK:=s03.trans s4;rw[<-eg];cases g with
   |true =>
    walk_at"rp";refine⟨⟨_,_,rfl⟩,s13.trans s4,λg' UV=>?_⟩;rw[xU,hg]at UV;rcases zK.mp UV with z|z
    ·exact cS g' z
    ·exact zX.mp z
   |false =>
    walk_at"rp";refine⟨by rw[yZ];simp,λa ha=>⟨a,.int (i:Int),true,rfl,zu,λdx nN=>⟨rfl,a,Cr,some dx,rfl,zu,xr,?_⟩⟩⟩;have HN:dx≠a:=λz=>by rw[z,zu]at nN;cases nN
    have hd5:H4 dx=none:=by rw[zj HN]at nN;exact nN
    have s6:Same H4 (upd (upd (upd (upd H4 a (exO a Cr none true)) dx (.xd [("number",.int (i:Int))])) a (exO a Cr (some dx) true)) a (exO a Cr (some dx) false)):=zf (zf (zf (zf (Same.refl _) ha _) hd5 _) ha _) ha _;exact qn i hg cS a dx _ (AK.trans s6) zu (by rw[zj HN,zj HN,zu])
 ·rintro σ H2 ⟨⟨x3,x4,rfl⟩,s2,cS⟩;walk_at"rp";rw[<-EU,xW]at cS;exact qy cS H2 (s1.trans s2)
inductive Vd where
 |bounds
 |row (n:Nat)
 |even
 |ok
def JdgsAt(K:W.Frag)(H:Hp)(ts:List Say)(ws:List V)(gs:List Bool):Prop:=∀ss R,NamesOf ts ss->FitRows ts ss R->∀(i:Nat) v g,ws[i]?=some v->gs[i]?=some g->Jdg K H R v g
def Cf(K:W.Frag)(H:Hp)(ts:List Say)(xs:List Str)(ws:List V):Vd->Prop
 | .bounds=>noB ts ws.length
 | .row n=>(Lst ts xs/\1<=ws.length/\ws.length<=21)/\∃gs:List Bool,gs.length=ws.length/\JdgsAt K H ts ws gs/\gs[n]?=some false/\∀g∈gs.take n,g=true
 | .even=>(Lst ts xs/\1<=ws.length/\ws.length<=21)/\JdgsAt K H ts ws (List.replicate ws.length true)/\ws.length % 2=0
 | .ok=>(Lst ts xs/\1<=ws.length/\ws.length<=21)/\JdgsAt K H ts ws (List.replicate ws.length true)/\ws.length % 2=1
def Kh(K:W.Frag)(H:Hp)(b j:Addr)(vd:Vd):Prop:=∃(us ws:List V)(ts:List Say)(xs:List Str),SqT K H b us/\SaysAt K H us ts/\SqT K H j ws/\V1 ts xs/\(∀t∈ts,t.pieces<=130)/\ws.length<=2000/\Cf K H ts xs ws vd
theorem JdgsAt.same{H H':Hp}{ts:List Say}{ws:List V}{gs:List Bool}(s:Same H H')(h:JdgsAt K H ts ws gs):JdgsAt K H' ts ws gs:=λss R h1 h2 i v g h3 h4=>(h ss R h1 h2 i v g h3 h4).same s
theorem Xc{ts:List Say}{xs:List Str}{n:Nat}(h:Lst ts xs/\1<=n/\n<=21):okB ts n:=⟨⟨h.1.lo,h.1.hi⟩,h.2,h.1.pc,λss hN=>(h.1.names hN).1⟩
theorem OobE.same{C:Addr}{H H':Hp}{E:XK}(s:Same H H')(h:OobE C H E):OobE C H' E:=λa H2 s2 e=>h a H2 (s.trans s2) e
theorem BadE.same{C:Addr}{H H':Hp}{n:Nat}{E:XK}(s:Same H H')(h:BadE C H n E):BadE C H' n E:=λa dx H2 s2 e1 e2=>h a dx H2 (s.trans s2) e1 e2
def Cg(K:W.Frag)(Co Cr Ce b j:Addr)(H:Hp)(Q:VK)(E:XK):Vd->Prop
 | .bounds=>OobE Co H E
 | .row n=>BadE Cr H n E
 | .even=>OobE Ce H E
 | .ok=>∀(p:Addr)(H':Hp),Same H H'->SqT K H' p [.ref b,.ref j]->Q (.ref p) H'
def Zj(K:W.Frag)(Co Cr Ce:Addr):Sp:=λvs H Q E=>∃(b j:Addr)(vd:Vd),vs=[.ref b,.ref j]/\Kh K H b j vd/\Cg K Co Cr Ce b j H Q E vd
theorem sc_seated:zm ["sayings","judges"] ["sayings","judges"] (zy (top 28)):=⟨rfl,rfl,rfl,by decide +kernel,rfl,by decide +kernel,by decide +kernel⟩
theorem Tn{Co Cr Ce:Addr}(D:Def K mg "seated" (top 28) ["sayings","judges"])(nJ:yu P w K mg base 131 "check_bounds" ["sayings","judges"] (Fp K Co))(pJ:yu P w K mg base 45 "check_rows" ["sayings","judges"] (Jw K Cr))(kQ:v9 K Ce)(dY:mg "Even"=some (.ref Ce))(aD:mg "len"=none):yu P w K mg base 132 "seated" ["sayings","judges"] (Zj K Co Cr Ce):=by
 refine D.calleeX sc_seated (λvs H Q E h=>?_) λf cdv A outer s H vs Q E hr h=>?_
 ·obtain⟨b,j,vd,rfl,_⟩:=h
  rfl
 have nd:=sc_seated.nd;obtain⟨b,j,vd,rfl,⟨us,ws,ts,xs,hb,hT,hj,hL,hp,hw,hD⟩,q⟩:=h;refine⟨[some (.ref b),some (.ref j)],_,rfl,(zz (yi (vw nJ yw hr (by lia) (z9 (z8 0) (z9 (z8 1) z4))))
  (zz (yi (vw pJ yw hr (by lia) (z9 (z8 0) (z9 (z8 1) z4))))
  (zz (za (zc (wb hr.units) (z6 vk (zq ya rfl aD yp (z9 (z8 1) z4)) zv) zv (ze _)) (zx (yr (xt kQ dY (z9 z7 z4)) xm rfl)) zi)
  (zx (zk (yy (z9 (z8 0) (z9 (z8 1) z4)))))))),?_⟩
 walk_at"rp"
 by_cases hv:∃z:Cf K H ts xs ws .bounds,vd = .bounds
 ·obtain⟨z,rfl⟩:=hv;exact⟨b,j,us,ws,ts,xs,rfl,hb,hT,hj,hL,hp,hw,.inr ⟨z,q⟩⟩
 have hok:okB ts ws.length:=by
  cases vd with
  |bounds=>exact absurd ⟨hD,rfl⟩ hv
  |row n=>exact Xc hD.1
  |even=>exact Xc hD.1
  |ok=>exact Xc hD.1
 refine⟨b,j,us,ws,ts,xs,rfl,hb,hT,hj,hL,hp,hw,.inl ⟨hok,λH1 s1=>?_⟩⟩;have hj1:=(zw s1).sqT hj;walk_at"rp";have go:∀(Q2:VK)(gs:List Bool),(Lst ts xs/\1<=ws.length/\ws.length<=21)->gs.length=ws.length->JdgsAt K H ts ws gs->(((∀g∈gs,g=true)->∀H',Same H1 H'->Q2 .non H')/\∀n,gs[n]?=some false->(∀g∈gs.take n,g=true)->BadE Cr H1 n E)->Jw K Cr [V.ref b,V.ref j] H1 Q2 E:=λQ2 gs hL hg hJ k=>⟨b,j,us,ws,ts,xs,gs,rfl,(zw s1).sqT hb,hT.mono (zw s1),hL.1,hj1,by lia,hg,hJ.same s1,k.1,k.2⟩
 cases vd with
 |bounds=>exact absurd ⟨hD,rfl⟩ hv
 |row n =>
  obtain⟨h0,gs,hg,hJ,hn,ht⟩:=hD;refine go _ gs h0 hg hJ ⟨λall=>?_,λm hm mE=>?_⟩
  ·have:=all false (zB hn);cases this
  ·have e:m=n:=by
    rcases tM m n with z|z|z
    ·have:=ht false (zB (by rw[vO z];exact hm));cases this
    ·exact z
    ·have:=mE false (zB (by rw[vO z];exact hn));cases this
   subst e;exact BadE.same s1 q
 |even =>
  obtain⟨h0,hJ,h2⟩:=hD;refine go _ _ h0 uY hJ ⟨λ_ H2 s2=>?_,λm hm _=>?_⟩
  ·walk_at"rp";refine⟨_,.inr ((zw s2).sqT hj1),by decide,?_⟩;rw[show decide (((ws.length:Nat):Int) % 2=0)=true from zI (by lia)];walk_at"rp";refine⟨by rw[yZ];simp,λa na=>⟨a,Ce,none,rfl,zu,kQ.x,?_⟩⟩;have pK:=s1.trans s2;exact q a _ (zf (zf pK (y9 pK na) _) (y9 pK na) _) zu
  ·have:=List.eq_of_mem_replicate (zB hm);cases this
 |ok =>
  obtain⟨h0,hJ,h2⟩:=hD;refine go _ _ h0 uY hJ ⟨λ_ H2 s2=>?_,λm hm _=>?_⟩
  ·walk_at"rp";refine⟨_,.inr ((zw s2).sqT hj1),by decide,?_⟩;rw[show decide (((ws.length:Nat):Int) % 2=0)=false from yV (by lia)];walk_at"rp";exact⟨zt (by simp),λp H3 n3 s3 e3=>q p H3 (s1.trans (s2.trans s3)) (SqT.of e3)⟩
  ·have:=List.eq_of_mem_replicate (zB hm);cases this
def K1(C:Addr):Sp:=λvs H Q _=>∃(o dx:Addr)(x:Str),vs=[.ref o,.str x]/\H o=some (.ins C dx [])/\∀H',SameA o H H'->H' o=some (.ins C dx (rdF x 0 0))->Q .non H'
theorem sc_rdinit:zm ["self","text"] ["self","text"] (zy (zb (top 34) 0)):=⟨rfl,rfl,rfl,by decide +kernel,rfl,by decide +kernel,by decide +kernel⟩
theorem Tl{C:Addr}{ds:List Value}(D:DefN K C "Reading.__init__" (zb (top 34) 0) ["self","text"] ds)(rc:RdC K C):lq P w K mg base 1 C ["self","text"] ds (K1 C):=by
 refine D.callee sc_rdinit (λvs H Q E h=>?_) λf cdv A outer s H vs Q E hr h=>?_
 ·obtain⟨o,dx,x,rfl,_⟩:=h
  rfl
 have nd:=sc_rdinit.nd;obtain⟨o,dx,x,rfl,ho,q⟩:=h;refine⟨[some (.ref o),some (.str x)],_,rfl,(zz (oi (z8 0) (z8 1) rfl)
  (zz (oi (z8 0) zv rfl)
  (zx (oi (z8 0) zv rfl)))),?_⟩
 walk_at"rp";refine⟨o,C,dx,_,rfl,ho,rc.cl,rc.t,by decide,?_⟩;walk_at"rp";refine⟨o,C,dx,_,rfl,zu,rc.cl,rc.p,(show(1:Nat)<1000 by decide),?_⟩;walk_at"rp";refine⟨o,C,dx,_,rfl,zu,rc.cl,rc.n,(show(2:Nat)<1000 by decide),?_⟩;exact q _ ((SameA.upd _ _ _).trans ((SameA.upd _ _ _).trans (SameA.upd _ _ _))) (by rw[zu];rfl)
theorem qb{Cn:Addr}{H H1:Hp}{E:XK}(x0:v9 K Cn)(h:OobE Cn H E)(s:Same H H1):∀a,H1 a=none->∃oV C dx,V.ref a=V.ref oV/\upd H1 a (exO a Cn none true) oV=some (exO oV C dx true)/\XCls K C/\E (Value.ref oV) dx (upd (upd H1 a (exO a Cn none true)) oV (exO oV C dx false)):=λa na=>⟨a,Cn,none,rfl,zu,x0.x,h a _ (zf (zf s (y9 s na) _) (y9 s na) _) zu⟩
def ay(K:W.Frag)(Cn:Addr):Sp:=λvs H Q E=>∃(v:V)(t:Value)(b:Bool),vs=[v]/\TyX K H v t/\W.kitOne K t (.type "str")=some b/\(b=true->Q .non H)/\(b=false->OobE Cn H E)
theorem sc_check:zm ["text"] ["text"] (zy (top 35)):=⟨rfl,rfl,rfl,by decide +kernel,rfl,by decide +kernel,by decide +kernel⟩
theorem Pt{Cn:Addr}(D:Def K mg "check_text" (top 35) ["text"])(aC:v9 K Cn)(aF:mg "NoText"=some (.ref Cn))(aA:mg "isinstance"=none)(fZ:mg "str"=none):yu P w K mg base 1 "check_text" ["text"] (ay K Cn):=by
 refine D.calleeX sc_check (λvs H Q E h=>?_) λf cdv A outer s H vs Q E hr h=>?_
 ·obtain⟨v,t,b,rfl,_⟩:=h
  rfl
 have nd:=sc_check.nd;obtain⟨v,t,b,rfl,ht,hk,qy,qn⟩:=h;refine⟨[some v],_,rfl,(zx (za (wu (xw (zq ul rfl aA zo (z9 (z8 0) (z9 (yc (v:=.ty "str") rfl fZ V7 rfl) z4))))) (zx (yr (xt aC aF (z9 z7 z4)) xm rfl)) zi)),?_⟩;walk_at"rp";refine⟨t,b,ht,hk,?_⟩;cases b with
 |true =>
  walk_at"rp";exact qy rfl
 |false =>
  walk_at"rp";exact⟨zt (by simp),qb aC (qn rfl) (Same.refl _)⟩
def sm(x:List Nat):Option Say:=match yz x 41 40 0 with
 |some (t,_,p)=>if p<x.length then none else some t
 |none=>none
def N3(K:W.Frag)(H:Hp)(v:V):Prop:=∃t,TyX K H v t/\W.kitOne K t (.type "str")=some false
def mh(K:W.Frag)(Cn:Addr):Sp:=λvs H Q E=>∃v:V,vs=[v]/\((N3 K H v/\OobE Cn H E)\/∃x:Str,v = .str x/\xf x/\(sm x.cps.toList=none->OobE Cn H E)/\∀t,sm x.cps.toList=some t->∀(v':V)(H':Hp),Same H H'->SayAt K H' v' t->Q v' H')
theorem sc_reads:zm ["text","reading","saying"] ["text"] (zy (top 36)):=⟨rfl,rfl,rfl,by decide +kernel,rfl,by decide +kernel,by decide +kernel⟩
theorem Px{C Cn:Addr}{ds:List Value}(D:Def K mg "read_saying" (top 36) ["text"])(rc:RdC K C)(eH:yu P w K mg base 1 "check_text" ["text"] (ay K Cn))(nK:lq P w K mg base 1 C ["self","text"] ds (K1 C))(iU:mg "Reading"=some (.ref C))(aE:yk P w K mg base 85 C "take_saying" ["self"] (Nj K C Cn 41))(aC:v9 K Cn)(aF:mg "NoText"=some (.ref Cn))(aD:mg "len"=none):yu P w K mg base 86 "read_saying" ["text"] (mh K Cn):=by
 refine D.calleeX sc_reads (λvs H Q E h=>?_) λf cdv A outer s H vs Q E hr h=>?_
 ·obtain⟨v,rfl,_⟩:=h
  rfl
 have nd:=sc_reads.nd;obtain⟨v,rfl,h⟩:=h;refine⟨[some v,none,none],_,rfl,(zz (yi (vw eH yw hr (by lia) (z9 (z8 0) z4)))
  (zz (zn 1 nd (Lw nK hr (by lia) iU (z9 (z8 0) z4)))
  (zz (zn 2 nd (w4 aE yw hr (by lia) (z8 1)))
  (zz (za (zc S6 (w8 (z8 1) rfl) (zq ya rfl aD yp (z9 (z8 0) z4)) (ze _)) (zx (yr (xt aC aF (z9 z7 z4)) xm rfl)) zi)
  (zx (zk (z8 2))))))),?_⟩
 walk_at"rp";rcases h with⟨⟨t,ht,hk⟩,qn⟩|⟨x,rfl,hx,qn,qy⟩
 ·exact⟨v,t,false,rfl,ht,hk,(λz=>by cases z),λ_=>qn⟩
 refine⟨.str x,.type "str",true,rfl,.of (.str _),wx _,λ_=>?_,λz=>by cases z⟩;walk_at"rp";intro o dx no ndx ne;refine⟨o,dx,x,rfl,zu,λH1 s1 h1=>⟨rfl,?_⟩⟩;have s01:Same H H1:=λb u e=>by
  have hbo:b≠o:=λz=>by rw[z,no]at e;cases e
  have hbd:b≠dx:=λz=>by rw[z,ndx]at e;cases e
  exact s1 b u hbo (by rw[zj hbo,zj hbd];exact e)
 have fresh:∀{H2:Hp},SameA o H1 H2->Same H H2:=λ{H2} s2 b u e=>s2 b u (λz=>by rw[z,no]at e;cases e) (s01 b u e);have nU:=ym x;walk_at"rp";refine⟨o,dx,_,rfl,h1,rfl,o,dx,x,0,0,rfl,h1,yJ _,hx,by decide,by decide,trivial,?_⟩;show RES K C Cn o dx x H1 _ E (yz x.cps.toList 41 40 0);unfold sm at qn qy;cases e:yz x.cps.toList 41 40 0 with
 |none =>
  rw[e]at qn;exact λa H2 s2 ea=>qn rfl a H2 (fresh s2) ea
 |some z =>
  obtain⟨t,r,p⟩:=z;rw[e]at qn qy;dsimp only at qn qy;intro v2 H2 s2 h2 hv;walk_at"rp";refine⟨o,C,dx,_,_,rfl,h2,rc.cl,rc.p,rfl,?_⟩;walk_at"rp";refine⟨by rw[yZ];have:=hx.len;lia,?_⟩;refine xi (λc=>?_) λc=>?_
  ·have c':=zF c;exact⟨zt (by simp),qb aC (qn (by rw[zG (by lia)])) (fresh s2)⟩
  ·have c':¬p<x.cps.toList.length:=λz=>c (zI (by lia));walk_at"rp";exact qy t (by rw[zM c']) v2 H2 (fresh s2) hv
def yn(c:Nat):Bool:=decide (c=121)||decide (c=110)
def eo(l:List Nat)(m:Nat):Option (List Bool):=if nx l 0 (lit "judge ")=true/\(l.drop 6).length=m/\(l.drop 6).all yn=true then some ((l.drop 6).map λc=>decide (c=121))else none
theorem K3{x y:Str}:Txt.startswith x y=nx x.cps.toList 0 y.cps.toList:=by
 rw[<-Ri (yJ _)];unfold Txt.startswith Txt.startswith3
 rfl
theorem qd(x:Str)(n:Nat):Txt.slice x (some (n:Int)) none=⟨(x.cps.toList.drop n).toArray⟩:=by
 have nU:=ym x
 by_cases h:n<=x.length
 ·rw[slice_from_eq (b:=(x.length:Int)) (by lia) (by lia) rfl]
  congr 2
  rw[wR];exact List.take_of_length_le (by rw[xY];lia)
 ·rw[slice_beyond (by lia),List.drop_eq_nil_of_le (by lia)]
  rfl
def ug:List (Key×Value):=[(Sum.inr (Str.ofString "y"),.bool true),(Sum.inr (Str.ofString "n"),.bool false)]
theorem on(c:Nat):valueAt ug (Sum.inr (⟨#[c]⟩:Str))=if c=121 then some (.bool true)else if c=110 then some (.bool false)else none:=by
 have hy:Str.ofString "y"=⟨#[121]⟩:=by decide +kernel
 have hn:Str.ofString "n"=⟨#[110]⟩:=by decide +kernel
 have inj:∀d:Nat,((Sum.inr (⟨#[d]⟩:Str):Key)=Sum.inr (⟨#[c]⟩:Str))↔c=d:=λd=>by
  constructor
  ·intro h;have h2:(⟨#[d]⟩:Str)=⟨#[c]⟩:=Sum.inr.inj h;have h3:=xH (λz:Str=>z.cps.toList) h2;simpa using h3.symm
  ·intro h;rw[h]
 unfold valueAt ug;rw[hy,hn,List.find?_cons,List.find?_cons,List.find?_nil]
 by_cases h1:c=121
 ·rw[zG h1,zI ((inj 121).mpr h1)]
  rfl
 ·rw[zM h1,yV λz=>h1 ((inj 121).mp z)]
  by_cases h2:c=110
  ·rw[zG h2,zI ((inj 110).mpr h2)]
   rfl
  ·rw[zM h2,yV λz=>h2 ((inj 110).mp z)]
   rfl
def K2(K:W.Frag)(Cn:Addr):Sp:=λvs H Q E=>∃(l:Str)(m:Nat),vs=[.str l,.int (m:Int)]/\xf l/\(eo l.cps.toList m=none->OobE Cn H E)/\∀k,eo l.cps.toList m=some k->∀(a:Addr)(H':Hp),Same H H'->SqT K H' a (k.map V.bl)->Q (.ref a) H'
theorem sc_row:zm ["line","many","letters","letter"] ["line","many"] (zy (top 37)):=⟨rfl,rfl,rfl,by decide +kernel,rfl,by decide +kernel,by decide +kernel⟩
theorem Ib{Cn Ta:Addr}(D:Def K mg "read_row" (top 37) ["line","many"])(aC:v9 K Cn)(aF:mg "NoText"=some (.ref Cn))(gW:mg "TRUTHS"=some (.ref Ta))(hTr:DictK P w K Ta ug)(aD:mg "len"=none)(aH:mg "tuple"=none):yu P w K mg base 1 "read_row" ["line","many"] (K2 K Cn):=by
 refine D.calleeX sc_row (λvs H Q E h=>?_) λf cdv A outer s H vs Q E hr h=>?_
 ·obtain⟨l,m,rfl,_⟩:=h
  rfl
 have nd:=sc_row.nd;obtain⟨l,m,rfl,hl,qn,qy⟩:=h;have nU:=ym l;have aZ:=hl.len;have qF:(l.cps.toList.drop 6).length=l.length-6:=by rw[xY,nU]
 refine⟨[some (.str l),some (.int (m:Int)),none,none],_,rfl,(zz (zn 2 nd (vz (z8 0) (uo (zq ya rfl aD yp (z9 z7 z4))) vb))
  (zz (za (PW.pt (su (wu (xw (Y0 (z8 0) (z9 z7 z4)))) (ud (zc (Lx hr.units) (zq ya rfl aD yp (z9 (z8 2) z4)) (z8 1) (ze _))))) (zx (yr (xt aC aF (z9 z7 z4)) xm rfl)) zi)
  (zz (ag rfl (Qj (z8 2)) (ve 3 nd) (zx (za (zc Pg (z8 3) (wm gW) (by with_unfolding_all rfl)) (zx (yr (xt aC aF (z9 z7 z4)) Vi rfl)) zi)))
  (zx (zk (xh uy rfl aH xn (z9 (vx (ixs:=[]) (xq (own:=["letter"]) (N:=[]) rfl rfl rfl rfl rfl rfl rfl (by decide +kernel) rfl rfl rfl) rfl (Qj (z8 2)) (λ_ _ _ _=>v8) (λ_ _ _ _=>(Lu (wm gW) (z8 0) (λ_ _=>rfl))) rfl) z4))))))),?_⟩
 walk_at"rp";refine⟨zt (by decide +kernel),by rw[yZ];lia,?_⟩;rw[show(((Str.ofString "judge ").length:Nat):Int)=((6:Nat):Int)from rfl,qd];have KC:(⟨(l.cps.toList.drop 6).toArray⟩:Str).length=l.length-6:=by rw[<-qF];simp[Str.length]
 have hat:∀i c,(⟨(l.cps.toList.drop 6).toArray⟩:Str).cps[i]?=some c->(l.cps.toList.drop 6)[i]?=some c:=λi c h=>List.getElem?_toArray.symm.trans h;walk_at"rp";rw[K3];unfold eo at qn qy;refine xi (λc=>⟨zt (by simp),qb aC (qn ?_) (Same.refl _)⟩) λc=>?_
 ·rw[zM λz=>?_];rw[show nx l.cps.toList 0 (Str.ofString "judge ").cps.toList=true from z.1]at c;cases c
 refine⟨by rw[KC,yZ];lia,?_⟩;rw[KC];have hj:nx l.cps.toList 0 (lit "judge ")=true:=by
  cases hb:nx l.cps.toList 0 (lit "judge ")with
  |true=>rfl
  |false=>exact absurd (show(!nx l.cps.toList 0 (Str.ofString "judge ").cps.toList)=true from by rw[show nx l.cps.toList 0 (Str.ofString "judge ").cps.toList=false from hb];rfl) c
 refine xi (λc2=>⟨zt (by simp),qb aC (qn ?_) (Same.refl _)⟩) λc2=>?_
 ·rw[zM λz=>?_];have z2:=z.2.1;rw[qF]at z2;rw[zI (show(((l.length-6:Nat)):Int)=(m:Int)by lia)]at c2;cases c2
 have hlm:l.length-6=m:=by
  by_cases z:l.length-6=m
  ·exact z
  ·exact absurd (show(!decide ((((l.length-6:Nat)):Int)=(m:Int)))=true from by rw[yV (by lia)];rfl) c2
 walk_at"rp";refine O7 (x:=⟨(l.cps.toList.drop 6).toArray⟩) (λi σ H2=>∃iv:Option V,σ=[some (.str l),some (.int (m:Int)),some (.str ⟨(l.cps.toList.drop 6).toArray⟩),iv]/\Same H H2/\((l.cps.toList.drop 6).take i).all yn=true) ⟨none,rfl,Same.refl _,rfl⟩ ?_ ?_
 ·rintro i ch σ H2 pM ⟨iv,rfl,s2,cS⟩;have AB:=hat i ch pM;walk_at"rp";refine⟨_,_,ug,rfl,rfl,hTr,?_⟩;rw[on];have hyn:(if ch=121 then some (Value.bool true)else if ch=110 then some (Value.bool false)else none).isSome=yn ch:=by
   unfold yn
   by_cases h1:ch=121
   ·rw[zG h1,zI h1];rfl
   ·by_cases h2:ch=110
    ·rw[zM h1,zG h2,yV h1,zI h2];rfl
    ·rw[zM h1,zM h2,yV h1,yV h2];rfl
  rw[hyn];cases hb:yn ch with
  |true =>
   walk_at"rp";refine⟨_,rfl,s2,?_⟩;rw[xU,AB,List.all_append,cS];simp[hb]
  |false =>
   walk_at"rp";refine⟨zt (by simp),qb aC (qn ?_) s2⟩;rw[zM λz=>?_];have:=yS.mp z.2.2 ch (zB AB);rw[hb]at this;cases this
 ·rintro σ H2 ⟨iv,rfl,s2,cS⟩;rw[KC,<-qF,xW]at cS;have qy':=qy _ (zG ⟨hj,by rw[qF];exact hlm,cS⟩);walk_at"rp";intro C s₀ H₀ ex;refine Oh (x:=⟨(l.cps.toList.drop 6).toArray⟩) (λD i ys H3=>ys=(((l.cps.toList.drop 6).take i).map λc=>decide (c=121)).map V.bl/\i<=l.length-6/\H3 D=some (.lst ys)/\Same H2 H3/\H2 D=none) (by rw[KC,yZ];lia) ?_ ?_ ?_ ?_
  ·intro D H3 n3 s3 e3;exact⟨rfl,yJ _,e3,s3,n3⟩
  ·rintro D i ys H3 ⟨rfl,hi,e3,_⟩;exact⟨e3,by rw[zV,zV,wD,qF];lia⟩
  ·rintro D i ch ys H3 pM ⟨rfl,hi,e3,s3,n3⟩;have AB:=hat i ch pM;have bA:i<l.length-6:=by have:=(zR.mp AB).1;lia
   have hy:=yS.mp cS ch (zB AB);have cJ:∀b:Bool,b=decide (ch=121)->H3 D=some (.lst ((((l.cps.toList.drop 6).take i).map λc=>decide (c=121)).map V.bl))/\CN (⟨(l.cps.toList.drop 6).toArray⟩:Str).length i (((((l.cps.toList.drop 6).take i).map λc=>decide (c=121)).map V.bl++[V.bl b]=(((l.cps.toList.drop 6).take (i+1)).map λc=>decide (c=121)).map V.bl)/\i+1<=l.length-6/\upd H3 D (.lst ((((l.cps.toList.drop 6).take i).map λc=>decide (c=121)).map V.bl++[V.bl b])) D=some (.lst ((((l.cps.toList.drop 6).take i).map λc=>decide (c=121)).map V.bl++[V.bl b]))/\Same H2 (upd H3 D (.lst ((((l.cps.toList.drop 6).take i).map λc=>decide (c=121)).map V.bl++[V.bl b])))/\H2 D=none):=λb hb=>by
    subst hb;refine⟨e3,CN.mk (by rw[KC];exact bA) ⟨?_,by lia,zu,zf s3 n3 _,n3⟩⟩;rw[xU,AB,yM,yM]
    rfl
   walk_at"rp"
   by_cases h1:ch=121
   ·refine⟨ug,.bool true,.bl true,hTr,by rw[on,zG h1],rfl,cJ true (by rw[zI h1])⟩
   ·have h2:ch=110:=by
     unfold yn at hy;rw[yV h1,Bool.false_or]at hy;exact zF hy
    refine⟨ug,.bool false,.bl false,hTr,by rw[on,zM h1,zG h2],rfl,cJ false (by rw[yV h1])⟩
  ·rintro D ys H3 ⟨rfl,hi,e3,s3,n3⟩;rw[KC,<-qF,xW]at e3;walk_at"rp";exact⟨_,.inl (SqL.of e3),λa H4 s4 h4=>qy' a H4 (s2.trans (s3.trans s4)) h4⟩
theorem o3:∀(k ds:List Bool),PyData.eqvAll (k.map PyData.bool) (ds.map PyData.bool)=true->k=ds
 |[],[],_=>rfl
 |[],_::_,h=>by simp[PyData.eqvAll]at h
 |_::_,[],h=>by simp[PyData.eqvAll]at h
 |a::k,b::ds,h=>by
  rw[List.map_cons,List.map_cons,PyData.eqvAll,yY,PyData.eqv]at h;rw[eq_of_beq h.1,o3 k ds h.2]
section
variable {H:Hp}{R:List (List Bool)}
theorem C1{v:V}{d:PyData}(h:Has K H v d)(hl:PyData.canLay0 d=true)(he:∀k∈R,PyData.eqv (ur k) d=false):Jdg K H R v false :=
 ⟨d,h,hl,.inl ⟨List.any_eq_false.mpr λk hk=>by rw[he k hk];decide,rfl⟩⟩
theorem He{a:Addr}{ds:List Bool}(h:SqT K H a (ds.map V.bl))(hn:ds∉R):Jdg K H R (.ref a) false :=
 C1 (Z4 h) (l7 ds).1 λk hk=>Bool.eq_false_iff.mpr λe=>hn (by
  unfold ur at e;rw[PyData.eqv]at e;rw[<-o3 k ds e];exact hk)
end
def JL(K:W.Frag)(H:Hp)(ks:List (List Bool)):List V->List Bool->Prop
 |[],[]=>True
 |v::vs,g::gs=>Jdg K H ks v g/\JL K H ks vs gs
 |_,_=>False
section
variable {H H':Hp}{ks:List (List Bool)}
theorem JL.at:∀{vs:List V}{gs:List Bool},JL K H ks vs gs->∀(i:Nat) v g,vs[i]?=some v->gs[i]?=some g->Jdg K H ks v g
 |[],[],_,i,v,g,h,_=>by simp at h
 |_::_,_::_,h,0,v,g,e1,e2=>by
  cases e1;cases e2;exact h.1
 |_::_,_::_,h,i+1,v,g,e1,e2=>JL.at h.2 i v g (by simpa using e1) (by simpa using e2)
 |[],_::_,h,_,_,_,_,_=>h.elim
 |_::_,[],h,_,_,_,_,_=>h.elim
theorem JL.to{ts:List Say}{ss:List Str}{vs:List V}{gs:List Bool}(hN:NamesOf ts ss)(hF:FitRows ts ss ks)(h:JL K H ks vs gs):JdgsAt K H ts vs gs:=λdL R' h1 h2 i v g hv hg=>by
 cases NamesOf.eq h1 hN;cases FitRows.eq h2 hF;exact h.at i v g hv hg
theorem Ov{a:Addr}{k:List Bool}(h:SqT K H a (k.map V.bl))(hk:k∈ks)(hl:k.length<=100):Jdg K H ks (.ref a) true:=by
 refine⟨_,Z4 h,(l7 k).1,.inr ⟨wX.mpr ⟨k,hk,rn (Xx k)⟩,a,_,k.map λ_=>true,rfl,h,by rw[zV];exact hl,by simp,λi z g hz hg=>?_,?_⟩⟩
 ·rw[yI]at hz hg;cases hc:k[i]? with
  |none=>rw[hc]at hz;cases hz
  |some b =>
   rw[hc]at hz hg;cases hz;cases hg;exact .inl ⟨b,rfl,rfl⟩
 ·simp
theorem Uz:∀{J:List (Addr×List Bool)},(∀q∈J,SqT K H q.1 (q.2.map V.bl)/\q.2∈ks/\q.2.length<=100)->JL K H ks (J.map λq=>V.ref q.1) (List.replicate J.length true)
 |[],_=>trivial
 |q::J,h=>by
  obtain⟨h1,h2,h3⟩:=h q zD;exact⟨Ov h1 h2 h3,Uz λr hr=>h r (zO _ hr)⟩
end
theorem Li{ts:List Say}{ss:List Str}{ks:List (List Bool)}(h:FitRows ts ss ks){k:List Bool}(hk:k∈ks):k.length=ts.length:=by
 obtain⟨n,_,rfl⟩:=(h.2.1 k).mp hk;exact cz _ _
theorem sg{c:Nat}(h:small c=true):c=97\/(98<=c/\c<=122):=by
 have h1:c∈Xy:=zF h;have h2:∀d∈Xy,d=97\/(98<=d/\d<=122):=by decide +kernel
 exact h2 c h1
theorem Po{x:List Nat}{p c:Nat}(h:c∈yt x p):small c=true:=yS.mp (List.all_takeWhile (p:=small) (l:=x.drop p)) c h
theorem nk{n:List Nat}(h:∀c∈n,small c=true):PyData.strOk (⟨n.toArray⟩:Str)=true:=(Nh _).mpr λc hc=>by
 have:=sg (h c (by simpa using hc));lia
theorem D0{x:List Nat}{p:Nat}(h:vn (yt x p)=true):Nm (⟨(yt x p).toArray⟩:Str):=by
 unfold vn at h;rw[yY,yY]at h;have h1:¬6<(yt x p).length:=λz=>by
  have:=h.2.1;rw[zI z]at this;cases this
 refine⟨?_,nk λc hc=>Po hc⟩;show(yt x p).toArray.size<=20;rw[zN];lia
theorem vp{x:List Nat}:∀{f r p:Nat}{t:Say}{r' p':Nat},yz x f r p=some (t,r',p')->t.pieces+r'=r/\∀y∈t.letters,Nm y
 |0,r,p,t,r',p',h=>by simp[yz]at h
 |f+1,0,p,t,r',p',h=>by simp[yz]at h
 |f+1,r+1,p,t,r',p',h=>by
  rw[yz]at h;split at h
  ·unfold Qa at h;split at h
   ·rename_i t1 r1 p1 e;cases h;have:=vp e;exact⟨by simp only[Say.pieces];lia,this.2⟩
   ·cases h
  ·split at h
   ·unfold pIf at h;split at h
    ·rename_i t1 r1 p1 e;have i1:=vp e;split at h
     ·obtain⟨t2,p2,e2,ER,rfl,rfl⟩:=rf h;have i2:=vp e2;exact⟨by simp only[Say.pieces];lia,λy hy=>(zK.mp hy).elim (i1.2 y) (i2.2 y)⟩
     ·cases h
    ·cases h
   ·split at h
    ·unfold se at h;split at h
     ·rename_i t1 r1 p1 e;have i1:=vp e;split at h
      ·obtain⟨t2,p2,e2,ER,rfl,rfl⟩:=rf h;have i2:=vp e2;exact⟨by simp only[Say.pieces];lia,λy hy=>(zK.mp hy).elim (i1.2 y) (i2.2 y)⟩
      ·split at h
       ·obtain⟨t2,p2,e2,ER,rfl,rfl⟩:=rf h;have i2:=vp e2;exact⟨by simp only[Say.pieces];lia,λy hy=>(zK.mp hy).elim (i1.2 y) (i2.2 y)⟩
       ·cases h
     ·cases h
    ·unfold cq at h;split at h
     ·rename_i hok;cases h;exact⟨by simp only[Say.pieces];lia,λy hy=>by rw[zX.mp hy];exact D0 hok⟩
     ·cases h
theorem Qr{x:List Nat}{t:Say}(h:sm x=some t):t.pieces<=40/\∀y∈t.letters,Nm y:=by
 unfold sm at h;split at h
 ·rename_i t1 r1 p1 e;split at h
  ·cases h
  ·cases h;have:=vp e;exact⟨by lia,this.2⟩
 ·cases h
def yl:List Str->List Say->List (List Bool)->Option (List Say×List (List Bool))
 |[],ts,ks=>some (ts,ks)
 |l::ls,ts,ks=>if nx l.cps.toList 0 (lit "say ")=true/\ks=[]then(match sm (l.cps.toList.drop 4)with
   |some t=>yl ls (ts++[t]) ks
   |none=>none)else(match eo l.cps.toList ts.length with
   |some k=>yl ls ts (ks++[k])
   |none=>none)
def sf(ls:List Str):Option (List Say×List (List Bool)):=match yl ls [] []with
 |some (ts,ks)=>if ts=[]\/ks=[]then none else some (ts,ks)
 |none=>none
def K8(ts:List Say)(xs:List Str)(ks:List (List Bool)):Vd->Prop
 | .bounds=>noB ts ks.length
 | .row n=>(Lst ts xs/\1<=ks.length/\ks.length<=21)/\∃ss R,NamesOf ts ss/\FitRows ts ss R/\(∃k,ks[n]?=some k/\k∉R)/\∀k∈ks.take n,k∈R
 | .even=>(Lst ts xs/\1<=ks.length/\ks.length<=21)/\(∀ss R,NamesOf ts ss->FitRows ts ss R->∀k∈ks,k∈R)/\ks.length % 2=0
 | .ok=>(Lst ts xs/\1<=ks.length/\ks.length<=21)/\(∀ss R,NamesOf ts ss->FitRows ts ss R->∀k∈ks,k∈R)/\ks.length % 2=1
theorem Ow{H:Hp}{R:List (List Bool)}:∀{J:List (Addr×List Bool)},(∀q∈J,SqT K H q.1 (q.2.map V.bl))->(∀k∈R,k.length<=100)->JL K H R (J.map λq=>V.ref q.1) (J.map λq=>decide (q.2∈R))
 |[],_,_=>trivial
 |q::J,h,hR=>by
  refine⟨?_,Ow (λz hz=>h z (zO _ hz)) hR⟩;have h1:=h q zD;show Jdg K H R (.ref q.1) (decide (q.2∈R))
  by_cases hq:q.2∈R
  ·rw[zI hq];exact Ov h1 hq (hR _ hq)
  ·rw[yV hq];exact He h1 hq
theorem Jk{H:Hp}{b j:Addr}{us:List V}{ts:List Say}{xs:List Str}{J:List (Addr×List Bool)}{vd:Vd}(hb:SqT K H b us)(hT:SaysAt K H us ts)(hj:SqT K H j (J.map λq=>V.ref q.1))(hJ:∀q∈J,SqT K H q.1 (q.2.map V.bl))(hL:V1 ts xs)(hp:∀t∈ts,t.pieces<=130)(hn:J.length<=2000)(h:K8 ts xs (J.map (·.2)) vd):Kh K H b j vd:=by
 have hl:(J.map λq=>V.ref q.1).length=J.length:=zV _;have sK:(J.map (·.2)).length=J.length:=zV _;refine⟨us,_,ts,xs,hb,hT,hj,hL,hp,by lia,?_⟩;have R100:∀{ss:List Str}{R:List (List Bool)},Lst ts xs->FitRows ts ss R->∀k∈R,k.length<=100:=λhL hF k hk=>by rw[Li hF hk];have:=hL.hi;lia
 have all:(Lst ts xs/\1<=(J.map (·.2)).length/\(J.map (·.2)).length<=21)->(∀ss R,NamesOf ts ss->FitRows ts ss R->∀k∈J.map (·.2),k∈R)->JdgsAt K H ts (J.map λq=>V.ref q.1) (List.replicate (J.map λq=>V.ref q.1).length true):=λh0 hk=>by
  rw[hl];intro ss R hN hF;exact JL.to hN hF (Uz λq hq=>⟨hJ q hq,hk ss R hN hF q.2 (yH (f:=λq:Addr×List Bool=>q.2) hq),R100 h0.1 hF _ (hk ss R hN hF q.2 (yH (f:=λq:Addr×List Bool=>q.2) hq))⟩) ss R hN hF
 cases vd with
 |bounds =>
  show noB ts _;rw[hl];exact sK▸h
 |row n =>
  obtain⟨h0,ss,R,hN,hF,⟨k,hk,hkR⟩,oZ⟩:=h;refine⟨⟨h0.1,by lia,by lia⟩,J.map (λq=>decide (q.2∈R)),by rw[zV,zV],(Ow hJ (R100 h0.1 hF)).to hN hF,?_,λg hg=>?_⟩
  ·rw[yI]at hk ⊢;cases hq:J[n]? with
   |none=>rw[hq]at hk;cases hk
   |some q =>
    rw[hq]at hk;cases hk;exact xH some (yV hkR)
  ·rw[<-List.map_take]at hg;obtain⟨q,hq,rfl⟩:=yW.mp hg;exact zI (oZ q.2 (by rw[<-List.map_take];exact yH (f:=λq:Addr×List Bool=>q.2) hq))
 |even =>
  obtain⟨h0,hk,h2⟩:=h;exact⟨⟨h0.1,by lia,by lia⟩,all h0 hk,by lia⟩
 |ok =>
  obtain⟨h0,hk,h2⟩:=h;exact⟨⟨h0.1,by lia,by lia⟩,all h0 hk,by lia⟩
def Kg(K:W.Frag)(Co Cr Ce:Addr)(ts:List Say)(ks:List (List Bool))(H:Hp)(Q:VK)(E:XK):Vd->Prop
 | .bounds=>OobE Co H E
 | .row n=>BadE Cr H n E
 | .even=>OobE Ce H E
 | .ok=>∀(p b j:Addr)(H':Hp)(us:List V)(J:List (Addr×List Bool)),Same H H'->SqT K H' p [.ref b,.ref j]->SqT K H' b us->SaysAt K H' us ts->SqT K H' j (J.map λq=>V.ref q.1)->(∀q∈J,SqT K H' q.1 (q.2.map V.bl))->J.map (·.2)=ks->Q (.ref p) H'
def a9(K:W.Frag)(Cn Co Cr Ce:Addr):Sp:=λvs H Q E=>∃v:V,vs=[v]/\((N3 K H v/\OobE Cn H E)\/∃x:Str,v = .str x/\xf x/\(∀l∈Txt.split x (Str.ofString "\n"),xf l)/\(Txt.split x (Str.ofString "\n")).length<=1000/\(sf (Txt.split x (Str.ofString "\n"))=none->OobE Cn H E) /\
 ∀ts ks,sf (Txt.split x (Str.ofString "\n"))=some (ts,ks)->∃vd xs,V1 ts xs/\K8 ts xs ks vd/\Kg K Co Cr Ce ts ks H Q E vd)
theorem bj(ks:List (List Bool)):PyData.eqv (c7 ks) (.list [])=decide (ks=[]):=by
 unfold c7;cases ks with
 |nil=>simp[PyData.eqv,PyData.eqvAll]
 |cons k ks=>simp[PyData.eqv,PyData.eqvAll]
theorem Se(ts:List Say):PyData.eqv (.list (ts.map ut)) (.list [])=decide (ts=[]):=by
 cases ts with
 |nil=>simp[PyData.eqv,PyData.eqvAll]
 |cons k ks=>simp[PyData.eqv,PyData.eqvAll]
theorem qv{H:Hp}{p:Addr}(h:H p=some (.lst [])):Has K H (.ref p) (.list []):=by
 unfold Has;exact⟨p,_,rfl,SqL.of h,by unfold HasL;rfl⟩
theorem qc:SeqAt.shaped (.list [])=true:=by decide +kernel
theorem aq{ts:List Say}(h:∀t∈ts,t.pieces<=40/\∀x∈t.letters,Nm x):SeqAt.shaped (.list (ts.map ut))=true:=by
 obtain⟨h1,h2⟩:=Yv ts h;unfold SeqAt.shaped;rw[PyData.canLay0,h1,PyData.depth];exact zI (by lia)
theorem Sk{H:Hp}{p:Addr}{us:List V}{ts:List Say}(h:H p=some (.lst us))(hT:SaysAt K H us ts):Has K H (.ref p) (.list (ts.map ut)):=by
 unfold Has;exact⟨p,_,rfl,SqL.of h,br hT⟩
theorem sc_read:zm ["text","sayings","judges","line"] ["text"] (zy (top 38)):=⟨rfl,rfl,rfl,by decide +kernel,rfl,by decide +kernel,by decide +kernel⟩
structure RdL(K:W.Frag)(H0 H:Hp)(ls:List Str)(i:Nat)(sa ja D:Addr)(us:List V)(ts:List Say)(J:List (Addr×List Bool)):Prop where
 lsm:Same H0 H
 lsa:H sa=some (.lst us)
 lja:H ja=some (.lst (J.map λq=>V.ref q.1))
 lD:H D=some (.lst (ls.map V.str))
 lT:SaysAt K H us ts
 lJ:∀q∈J,SqT K H q.1 (q.2.map V.bl)
 lpc:∀t∈ts,t.pieces<=40/\∀x∈t.letters,Nm x
 lrun:yl ls [] []=yl (ls.drop i) ts (J.map (·.2))
 ltl:ts.length<=i
 ljl:J.length<=i
theorem RdL.up{H0 H H':Hp}{ls:List Str}{i:Nat}{sa ja D:Addr}{us:List V}{ts:List Say}{J:List (Addr×List Bool)}(s:Same H H')(h:RdL K H0 H ls i sa ja D us ts J):RdL K H0 H' ls i sa ja D us ts J :=
 ⟨h.lsm.trans s,s _ _ h.lsa,s _ _ h.lja,s _ _ h.lD,h.lT.mono (zw s),λq hq=>(zw s).sqT (h.lJ q hq),h.lpc,h.lrun,h.ltl,h.ljl⟩
theorem RdL.row{H0 H:Hp}{ls:List Str}{i:Nat}{sa ja D a:Addr}{us:List V}{ts:List Say}{J:List (Addr×List Bool)}{k:List Bool}(h:RdL K H0 H ls i sa ja D us ts J)(n:H0 ja=none)(n1:sa≠ja)(n2:D≠ja)(ha:SqT K H a (k.map V.bl))(e:yl ls [] []=yl (ls.drop (i+1)) ts (J.map (·.2)++[k])):RdL K H0 (upd H ja (.lst ((J.map λq=>V.ref q.1)++[.ref a]))) ls (i+1) sa ja D us ts (J++[(a,k)]):=by
 have tl:=sj (o:=.lst ((J.map λq=>V.ref q.1)++[.ref a])) h.lja;refine⟨zf h.lsm n _,by rw[zj n1];exact h.lsa,by rw[zu,yM];rfl,by rw[zj n2];exact h.lD,h.lT.mono tl,λq hq=>?_,h.lpc,by rw[yM];exact e,Nat.le_succ_of_le h.ltl,by rw[zE];exact tE h.ljl⟩;rcases zK.mp hq with z|z
 ·exact tl.sqT (h.lJ q z)
 ·rw[zX.mp z];exact tl.sqT ha
theorem RdL.say{H0 H:Hp}{ls:List Str}{i:Nat}{sa ja D:Addr}{us:List V}{v:V}{ts:List Say}{t:Say}{J:List (Addr×List Bool)}(h:RdL K H0 H ls i sa ja D us ts J)(n:H0 sa=none)(n1:ja≠sa)(n2:D≠sa)(ha:SayAt K H v t)(ht:t.pieces<=40/\∀x∈t.letters,Nm x)(e:yl ls [] []=yl (ls.drop (i+1)) (ts++[t]) (J.map (·.2))):RdL K H0 (upd H sa (.lst (us++[v]))) ls (i+1) sa ja D (us++[v]) (ts++[t]) J:=by
 have tl:=sj (o:=.lst (us++[v])) h.lsa;refine⟨zf h.lsm n _,zu,by rw[zj n1];exact h.lja,by rw[zj n2];exact h.lD,SaysAt.app (h.lT.mono tl) ⟨ha.mono tl,trivial⟩,λq hq=>tl.sqT (h.lJ q hq),λu hu=>?_,e,by rw[zE];exact tE h.ltl,Nat.le_succ_of_le h.ljl⟩;rcases zK.mp hu with z|z
 ·exact h.lpc u z
 ·rw[zX.mp z];exact ht
theorem Rs{x:Str}{n:Nat}(h:xf x):xf (⟨(x.cps.toList.drop n).toArray⟩:Str):=by
 have hl:(⟨(x.cps.toList.drop n).toArray⟩:Str).length=x.cps.toList.length-n:=by
  show(x.cps.toList.drop n).toArray.size=_;rw[zN,xY]
 refine⟨?_,λc hc=>h.cps c (uR (by simpa using hc))⟩;rw[hl,ym];have:=h.len;lia
theorem Mb{Cn Co Cr Ce:Addr}(D:Def K mg "read" (top 38) ["text"])(eH:yu P w K mg base 1 "check_text" ["text"] (ay K Cn))(bD:yu P w K mg base 86 "read_saying" ["text"] (mh K Cn))(rQ:yu P w K mg base 1 "read_row" ["line","many"] (K2 K Cn))(nF:yu P w K mg base 132 "seated" ["sayings","judges"] (Zj K Co Cr Ce))(aC:v9 K Cn)(aF:mg "NoText"=some (.ref Cn))(aD:mg "len"=none)(aH:mg "tuple"=none):yu P w K mg base 133 "read" ["text"] (a9 K Cn Co Cr Ce):=by
 refine D.calleeX sc_read (λvs H Q E h=>?_) λf cdv A outer s H vs Q E hr h=>?_
 ·obtain⟨v,rfl,_⟩:=h
  rfl
 have nd:=sc_read.nd;obtain⟨v,rfl,h⟩:=h;refine⟨[some v,none,none,none],_,rfl,(zz (yi (vw eH yw hr (by lia) (z9 (z8 0) z4)))
  (zz (zn 1 nd (zd z4))
  (zz (zn 2 nd (zd z4))
  (zz (ag rfl (wt (Ly (z8 0) (z9 z7 z4))) (ve 3 nd) (zx (za (PW.pt (Qp (xw (Y0 (z8 3) (z9 z7 z4))) (Ve (zc (wb hr.units) (z8 2) (zd z4) (ze _))))) (zx (yi (S5 tZ tY Pd (z8 1) (z9 (vw bD U9 hr (by lia) (z9 (vz (z8 3) (uo (zq ya rfl aD yp (z9 z7 z4))) vb) z4)) z4)))) (zx (yi (S5 tZ tY Pd (z8 2) (z9 (vw rQ U9 hr (by lia) (z9 (z8 3) (z9 (zq ya rfl aD yp (z9 (z8 1) z4)) z4))) z4)))))))
  (zz (za (PW.pt (su (zc (wb hr.units) (z8 1) (zd z4) (ze _)) (ud (zc (wb hr.units) (z8 2) (zd z4) (ze _))))) (zx (yr (xt aC aF (z9 z7 z4)) xm rfl)) zi)
  (zx (zk (vw nF yw hr (by lia) (z9 (xh uy rfl aH xn (z9 (z8 1) z4)) (z9 (xh uy rfl aH xn (z9 (z8 2) z4)) z4)))))))))),?_⟩
 walk_at"rp";rcases h with⟨⟨t,ht,hk⟩,qn⟩|⟨x,rfl,hx,hls,hl1000,qn,qy⟩
 ·exact⟨v,t,false,rfl,ht,hk,(λz=>by cases z),λ_=>qn⟩
 refine⟨.str x,.type "str",true,rfl,.of (.str _),wx _,λ_=>?_,λz=>by cases z⟩;walk_at"rp";refine⟨zt (by simp),λsa H1 n1 s1 e1=>?_⟩;walk_at"rp";refine⟨zt (by simp),λja H2 n2 s2 e2=>?_⟩;walk_at"rp";generalize hlines:Txt.split x (Str.ofString "\n")=ls at hls hl1000 qn qy;refine⟨by decide +kernel,by rw[yZ];have:=hx.len;lia,hl1000,λDl H3 n3 s3 e3=>?_⟩;have nsj:sa≠ja:=λz=>by rw[<-z,e1]at n2;cases n2
 have nsD:sa≠Dl:=λz=>by rw[<-z,s2 _ _ e1]at n3;cases n3
 have njD:ja≠Dl:=λz=>by rw[<-z,e2]at n3;cases n3
 have nsa:H sa=none:=n1;have nja:H ja=none:=y9 s1 n2;have JT:yl ls [] []=none->sf ls=none:=λh=>by unfold sf;rw[h]
 refine .inl ⟨⟨_,SqL.of e3⟩,?_⟩;refine b9 (xs:=ls.map V.str) (λi σ H4=>∃(us:List V)(ts:List Say)(J:List (Addr×List Bool))(lv:Option V),σ=[some (.str x),some (.ref sa),some (.ref ja),lv]/\RdL K H H4 ls i sa ja Dl us ts J) ⟨[],[],[],none,rfl,s1.trans (s2.trans s3),(s2.trans s3) _ _ e1,s3 _ _ e2,e3,trivial,(λq hq=>by cases hq),(λt ht=>by cases ht),rfl,zT _,zT _⟩ ?_ ?_ ?_
 ·rintro i σ H4 _ ⟨us,ts,J,lv,rfl,h4⟩;exact SqL.of h4.lD
 ·rintro i v σ H4 hv ⟨us,ts,J,lv,rfl,h4⟩;rw[yI]at hv;cases hc:ls[i]? with
  |none=>rw[hc]at hv;cases hv
  |some l =>
   rw[hc]at hv;cases hv;have UT:i<ls.length:=(zR.mp hc).1;have ES:=hls l (zB hc);have eA:=h4.lrun;have hdr:ls.drop i=l::ls.drop (i+1):=by
    rw[List.drop_eq_getElem_cons UT]
    congr 1
    exact(zR.mp hc).2
   rw[hdr,yl]at eA;have htl:=h4.ltl;have hjl:=h4.ljl;walk_at"rp";rw[K3];refine xi (λc=>?_) λc=>?_
   ·refine⟨zt (by simp),λp5 H5 n5 s5 e5=>?_⟩;have hr:=h4.up s5;walk_at"rp";refine⟨_,_,Yp (SqL.of hr.lja) hr.lJ,qv e5,nj _,qc,?_⟩;rw[bj];refine xi (λc2=>?_) λc2=>?_
    ·have GU:nx l.cps.toList 0 (lit "say ")=true/\J.map (·.2)=[]:=⟨c,zF c2⟩
     refine⟨⟨_,_,rfl,hr.lsa⟩,?_⟩;walk_at"rp";refine⟨zt (by decide +kernel),by rw[yZ];have:=ES.len;lia,?_⟩;rw[show(((Str.ofString "say ").length:Nat):Int)=((4:Nat):Int)from rfl,qd];rw[zG GU]at eA;refine⟨_,rfl,.inr ⟨_,rfl,Rs ES,λno=>?_,λt ht v6 H6 s6 h6=>?_⟩⟩
     ·have no':sm (l.cps.toList.drop 4)=none:=by simpa using no
      rw[no']at eA;exact OobE.same hr.lsm (qn (JT eA))
     ·have DB:sm (l.cps.toList.drop 4)=some t:=by simpa using ht
      rw[DB]at eA;walk_at"rp";exact⟨_,(hr.up s6).lsa,by rw[hr.lT.len,yZ];lia,_,_,_,_,rfl,(hr.up s6).say nsa nsj.symm nsD.symm h6 (Qr DB) eA⟩
    ·have oN:¬(nx l.cps.toList 0 (lit "say ")=true/\J.map (·.2)=[]):=λz=>c2 (zI z.2);refine⟨⟨_,_,rfl,hr.lja⟩,?_⟩;walk_at"rp";refine⟨_,.inl (SqL.of hr.lsa),?_⟩;rw[hr.lT.len];rw[zM oN]at eA;refine⟨l,ts.length,rfl,ES,λno=>?_,λk hk a H6 s6 h6=>?_⟩
     ·rw[no]at eA;exact OobE.same hr.lsm (qn (JT eA))
     ·rw[hk]at eA;walk_at"rp";exact⟨_,(hr.up s6).lja,by rw[zV,yZ];lia,us,ts,_,_,rfl,(hr.up s6).row nja nsj njD.symm h6 eA⟩
   ·have oN:¬(nx l.cps.toList 0 (lit "say ")=true/\J.map (·.2)=[]):=λz=>c z.1;have hr:=h4;refine⟨⟨_,_,rfl,hr.lja⟩,?_⟩;walk_at"rp";refine⟨_,.inl (SqL.of hr.lsa),?_⟩;rw[hr.lT.len];rw[zM oN]at eA;refine⟨l,ts.length,rfl,ES,λno=>?_,λk hk a H6 s6 h6=>?_⟩
    ·rw[no]at eA;exact OobE.same hr.lsm (qn (JT eA))
    ·rw[hk]at eA;walk_at"rp";exact⟨_,(hr.up s6).lja,by rw[zV,yZ];lia,us,ts,_,_,rfl,(hr.up s6).row nja nsj njD.symm h6 eA⟩
 ·rintro σ H4 ⟨us,ts,J,lv,rfl,h4⟩;have eA:=h4.lrun;rw[zV,List.drop_length,yl]at eA;have UH:sf ls=if ts=[]\/J.map (·.2)=[]then none else some (ts,J.map (·.2)):=by unfold sf;rw[eA]
  have htl:=h4.ltl;have hjl:=h4.ljl;rw[zV]at htl hjl;walk_at"rp";refine⟨zt (by simp),λp5 H5 n5 s5 e5=>?_⟩;have h5:=h4.up s5;walk_at"rp";refine⟨_,_,Sk h5.lsa h5.lT,qv e5,aq h5.lpc,qc,?_⟩;rw[Se];refine xi (λc=>⟨zt (by simp),qb aC (qn (by rw[UH,zG (.inl (zF c))])) h5.lsm⟩) λc=>?_;refine⟨zt (by simp),λp6 H6 n6 s6 e6=>?_⟩;have h6:=h5.up s6;walk_at"rp";refine⟨_,_,Yp (SqL.of h6.lja) h6.lJ,qv e6,nj _,qc,?_⟩;rw[bj];refine xi (λc2=>⟨zt (by simp),qb aC (qn (by rw[UH,zG (.inr (zF c2))])) h6.lsm⟩) λc2=>?_;have oN:¬(ts=[]\/J.map (·.2)=[]):=λz=>z.elim (λz=>c (zI z)) λz=>c2 (zI z);rw[zM oN]at UH;obtain⟨vd,xs,hW,hV,hQ⟩:=qy _ _ UH;walk_at"rp";refine⟨_,.inl (SqL.of h6.lsa),λb H7 s7 hb=>?_⟩;walk_at"rp";refine⟨_,.inl (SqL.of (s7 _ _ h6.lja)),λj H8 s8 hj=>?_⟩;have h8:=(h6.up s7).up s8;have hb8:=(zw s8).sqT hb;refine⟨b,j,vd,rfl,Jk hb8 h8.lT hj h8.lJ hW (λt ht=>yQ (h8.lpc t ht).1 (by decide)) (by lia) hV,?_⟩;cases vd with
  |bounds=>exact OobE.same h8.lsm hQ
  |row n=>exact BadE.same h8.lsm hQ
  |even=>exact OobE.same h8.lsm hQ
  |ok =>
   intro p H9 s9 hp;have h9:=h8.up s9;exact hQ p b j H9 us J h9.lsm hp ((zw s9).sqT hb8) h9.lT ((zw s9).sqT hj) h9.lJ rfl
def okS(x:Str):Prop:=∀c∈x.cps.toList,small c=true
def NmV(y:Str):Prop:=vn y.cps.toList=true/\okS y
def NoL(rest:List Nat):Prop:=∀c,rest.head?=some c->small c=false
theorem xk{x y z:List Nat}{p:Nat}(h:x.drop p=y++z):nx x p y=true:=by
 unfold nx;rw[h,yP];exact List.prefix_append _ _
theorem yf{x y z:List Nat}{p:Nat}(h:x.drop p=y++z):x.drop (p+y.length)=z:=by
 rw[<-List.drop_drop,h,List.drop_left]
theorem cj{x z w:List Nat}{p c d:Nat}(h:x.drop p=c::z)(pN:c≠d):nx x p (d::w)=false:=by
 unfold nx;rw[h];show((d==c)&&_)=false;rw[xR.mpr (wU pN),tH]
theorem bd{n rest:List Nat}(hn:∀c∈n,small c=true)(hr:NoL rest):(n++rest).takeWhile small=n:=by
 induction n with
 |nil =>
  cases rest with
  |nil=>rfl
  |cons c r=>rw[tX,xP,hr c rfl];rfl
 |cons a n ih =>
  rw[tD,xP,hn a zD];simp only[if_true];rw[ih λc hc=>hn c (zO _ hc)]
theorem vv:lit "not "=[110,111,116,32]:=by decide +kernel
theorem tw:lit "(if "=[40,105,102,32]:=by decide +kernel
theorem wl:lit "("=[40]:=by decide +kernel
theorem rq:lit ")"=[41]:=by decide +kernel
theorem r8:lit " then "=[32,116,104,101,110,32]:=by decide +kernel
theorem uw:lit " and "=[32,97,110,100,32]:=by decide +kernel
theorem rz:lit " or "=[32,111,114,32]:=by decide +kernel
theorem Fo:small 40=false:=by decide +kernel
theorem Q5:small 41=false:=by decide +kernel
theorem dc:small 32=false:=by decide +kernel
theorem xo{c:Nat}{r:List Nat}(h:small c=false):NoL (c::r):=λd e=>by cases e;exact h
theorem W9{y:Str}(h:NmV y):∃c n,y.cps.toList=c::n/\small c=true:=by
 cases e:y.cps.toList with
 |nil =>
  have:=h.1;rw[e,show vn []=false by decide +kernel]at this;cases this
 |cons c n=>exact⟨c,n,rfl,h.2 c (by rw[e];exact zD)⟩
theorem Y2{y:Str}(h:NmV y):y∉wordsL:=λhm=>by
 have h1:=h.1;unfold vn at h1;rw[yY,yY]at h1;have e:(⟨y.cps.toList.toArray⟩:Str)=y:=by simp
 rw[e,zI hm]at h1;exact absurd h1.2.2 (by decide)
theorem U3{y:Str}{rest w:List Nat}{s:String}{n:List Nat}(h:NmV y)(hr:NoL rest)(hs:n++32::w=y.cps.toList++rest)(hn:∀c∈n,small c=true)(hw:(Str.ofString s).cps.toList=n)(hi:Str.ofString s∈wordsL):False:=by
 have h1:=bd (n:=y.cps.toList) h.2 hr;rw[<-hs,bd hn (xo dc)]at h1;refine Y2 h ?_;have e:y=Str.ofString s:=by
  apply Str.ext';apply xE.mp;rw[hw,h1]
 rw[e];exact hi
def tl(t:Say):List Nat:=t.text.cps.toList
theorem Vx{t:Say}{rest w:List Nat}(hv:∀y∈t.letters,NmV y)(hr:NoL rest)(h:[105,102,32]++w=tl t++rest):False:=by
 unfold tl at h;cases t with
 |letter y=>exact U3 (s:="if") (n:=[105,102]) (hv y (zX.mpr rfl)) hr (by simpa[Say.text]using h) (by decide +kernel) (by decide +kernel) (by decide +kernel)
 |neg t =>
  have e:(Say.neg t).text.cps.toList=lit "not "++t.text.cps.toList:=by
   show(Str.ofString "not "++t.text).cps.toList=_;rw[yX,zP];rfl
  rw[e,vv]at h;simp at h
 |bin o t1 t2 =>
  have e:∃z,(Say.bin o t1 t2).text.cps.toList=40::z:=by
   cases o with
   |con=>exact⟨_,by simp only[Say.text,yX,zP,zJ];rw[show(Str.ofString "(").cps.toList=[40]from wl];rfl⟩
   |dis=>exact⟨_,by simp only[Say.text,yX,zP,zJ];rw[show(Str.ofString "(").cps.toList=[40]from wl];rfl⟩
   |imp=>exact⟨_,by simp only[Say.text,yX,zP,zJ];rw[show(Str.ofString "(if ").cps.toList=[40,105,102,32]from tw];rfl⟩
  obtain⟨z,e⟩:=e;rw[e]at h;simp at h
theorem Rp(y:Str):tl (.letter y)=y.cps.toList:=rfl
theorem si(t:Say):tl (.neg t)=lit "not "++tl t:=by
 show(Str.ofString "not "++t.text).cps.toList=_;rw[yX,zP];rfl
theorem lg(a b:Say):tl (.bin .imp a b)=lit "(if "++(tl a++(lit " then "++(tl b++lit ")"))):=by
 unfold tl;simp only[Say.text,yX,zP,zJ]
 rfl
theorem Ak:lit " and "=(Str.ofString " ").cps.toList++((Str.ofString "and").cps.toList++(Str.ofString " ").cps.toList):=by decide +kernel
theorem or3:lit " or "=(Str.ofString " ").cps.toList++((Str.ofString "or").cps.toList++(Str.ofString " ").cps.toList):=by decide +kernel
theorem lc(a b:Say):tl (.bin .con a b)=lit "("++(tl a++(lit " and "++(tl b++lit ")"))):=by
 rw[Ak];unfold tl;simp only[Say.text,yX,zP,zJ]
 rfl
theorem lf(a b:Say):tl (.bin .dis a b)=lit "("++(tl a++(lit " or "++(tl b++lit ")"))):=by
 rw[or3];unfold tl;simp only[Say.text,yX,zP,zJ]
 rfl
def N5(x:List Nat)(f r p:Nat)(t:Say):Prop:=(t.pieces<=r->yz x f r p=some (t,r-t.pieces,p+(tl t).length))/\(r<t.pieces->yz x f r p=none)
theorem Wf{x rest:List Nat}{o:Op2}{t1 t2:Say}{f r p:Nat}(h:N5 x f r p t2)(hx:x.drop p=tl t2++(lit ")"++rest)):(t2.pieces<=r->ql x o t1 (yz x f r p)=some (.bin o t1 t2,r-t2.pieces,p+(tl t2).length+1))/\(r<t2.pieces->ql x o t1 (yz x f r p)=none):=by
 constructor
 ·intro hr;rw[h.1 hr];have h2:=xk (yf hx);unfold ql;dsimp only;rw[zG h2]
 ·intro hr;rw[h.2 hr]
  rfl
theorem xg{x:List Nat}:∀(t:Say)(f r p:Nat)(rest:List Nat),(∀y∈t.letters,NmV y)->x.drop p=tl t++rest->NoL rest->r<f->N5 x f r p t
 |t,0,r,p,rest,_,_,_,hf=>absurd hf (by lia)
 |t,f+1,0,p,rest,_,_,_,_=>⟨λh=>absurd t.pieces_pos (by lia),λ_=>by rw[yz]⟩
 | .letter y,f+1,r+1,p,rest,hv,hx,hr,hf=>by
  have hy:=hv y (zX.mpr rfl);rw[Rp]at hx;obtain⟨c,n,ec,hc⟩:=W9 hy;have kP:x.drop p=c::(n++rest):=by rw[hx,ec];rfl
  have VB:c≠40:=λz=>by rw[z,Fo]at hc;cases hc
  have h1:nx x p (lit "not ")=false:=by
   cases hb:nx x p (lit "not ")with
   |false=>rfl
   |true =>
    obtain⟨w,hw⟩:=yP.mp hb;rw[vv,hx]at hw;exact(U3 (s:="not") (n:=[110,111,116]) (w:=w) hy hr hw (by decide +kernel) (by decide +kernel) (by decide +kernel)).elim
  have h2:nx x p (lit "(if ")=false:=by rw[tw];exact cj kP VB
  have h3:nx x p (lit "(")=false:=by rw[wl];exact cj kP VB
  have hn:yt x p=y.cps.toList:=by unfold yt;rw[hx];exact bd hy.2 hr
  refine⟨λ_=>?_,λh=>absurd h (by simp only[Say.pieces];lia)⟩;rw[yz,h1,zM (by decide),h2,zM (by decide),h3,zM (by decide)];unfold cq;rw[hn,zG hy.1,Rp];simp[Say.pieces]
 | .neg t,f+1,r+1,p,rest,hv,hx,hr,hf=>by
  rw[si,zJ]at hx;have h1:=xk hx;have ih:=xg t f r (p+4) rest hv (by have:=yf hx;rw[vv]at this;exact this) hr (by lia);have hl:(tl (.neg t)).length=4+(tl t).length:=by rw[si,zE,vv];rfl
  refine⟨λhp=>?_,λhp=>?_⟩
  ·rw[yz,zG h1,ih.1 (by simp only[Say.pieces]at hp;lia),hl];unfold Qa;dsimp only;simp only[Say.pieces]
   congr 3<;>lia
  ·rw[yz,zG h1,ih.2 (by simp only[Say.pieces]at hp;lia)]
   rfl
 | .bin .imp t1 t2,f+1,r+1,p,rest,hv,hx,hr,hf=>by
  have hl:(tl (.bin .imp t1 t2)).length=4+((tl t1).length+(6+((tl t2).length+1))):=by rw[lg];simp only[zE];rw[tw,r8,rq];rfl
  rw[lg]at hx;simp only[zJ]at hx;have h0:nx x p (lit "not ")=false:=by
   rw[vv];rw[tw]at hx;exact cj hx (by decide)
  have h1:=xk hx;have qE:=yf hx;rw[show(lit "(if ").length=4 by rw[tw];rfl]at qE;have i1:=xg t1 f r (p+4) _ (λy hy=>hv y (yU _ hy)) qE (by rw[r8];exact xo dc) (by lia);have kP:=yf qE;have h2:=xk kP;have BJ:=yf kP;rw[show(lit " then ").length=6 by rw[r8];rfl]at BJ;have i2:=xg t2 f (r-t1.pieces) (p+4+(tl t1).length+6) _ (λy hy=>hv y (zQ _ hy)) BJ (by rw[rq];exact xo Q5) (by lia);have e2:=Wf (o:=.imp) (t1:=t1) i2 BJ;have UI:(Say.bin .imp t1 t2).pieces=t1.pieces+t2.pieces+1:=by simp only[Say.pieces]
  rcases wE r t1.pieces with bA|AN
  ·refine⟨λhp=>absurd hp (by lia),λ_=>?_⟩;rw[yz,h0,zM (by decide),zG h1];unfold pIf;rw[i1.2 bA]
  ·have e:yz x (f+1) (r+1) p=ql x .imp t1 (yz x f (r-t1.pieces) (p+4+(tl t1).length+6)):=by
    rw[yz,h0,zM (by decide),zG h1];unfold pIf;rw[i1.1 AN];dsimp only;rw[zG h2]
   refine⟨λhp=>?_,λhp=>?_⟩
   ·rw[e,e2.1 (by lia),hl,UI]
    congr 3<;>lia
   ·rw[e,e2.2 (by lia)]
 | .bin .con t1 t2,f+1,r+1,p,rest,hv,hx,hr,hf=>by
  have hl:(tl (.bin .con t1 t2)).length=1+((tl t1).length+(5+((tl t2).length+1))):=by rw[lc];simp only[zE];rw[wl,uw,rq];rfl
  rw[lc]at hx;simp only[zJ]at hx;have h0:nx x p (lit "not ")=false:=by
   rw[vv];rw[wl]at hx;exact cj hx (by decide)
  have h1:=xk hx;have qE:=yf hx;rw[show(lit "(").length=1 by rw[wl];rfl]at qE;have sI:∀y∈t1.letters,NmV y:=λy hy=>hv y (yU _ hy);have i1:=xg t1 f r (p+1) _ sI qE (by rw[uw];exact xo dc) (by lia);have kP:=yf qE;have h2:=xk kP;have BJ:=yf kP;have hna:nx x (p+1+(tl t1).length) (lit " or ")=true->nx x (p+1+(tl t1).length) (lit " and ")=false:=λ_=>by
   cases hb:nx x (p+1+(tl t1).length) (lit " and ")with
   |false=>rfl
   |true =>
    rename_i hor;obtain⟨w1,e1⟩:=yP.mp hb;obtain⟨w2,e2⟩:=yP.mp hor;rw[<-e2,uw,rz]at e1;simp at e1
  rw[show(lit " and ").length=5 by rw[uw];rfl]at BJ;have DG:nx x p (lit "(if ")=false:=by
   cases hb:nx x p (lit "(if ")with
   |false=>rfl
   |true =>
    obtain⟨w,hw⟩:=yP.mp hb;rw[hx,tw,wl,uw]at hw;exact(Vx (t:=t1) (w:=w) sI (xo dc) (by simpa using hw)).elim
  have i2:=xg t2 f (r-t1.pieces) (p+1+(tl t1).length+5) _ (λy hy=>hv y (zQ _ hy)) BJ (by rw[rq];exact xo Q5) (by lia);have e2:=Wf (o:=.con) (t1:=t1) i2 BJ;have UI:(Say.bin .con t1 t2).pieces=t1.pieces+t2.pieces+1:=by simp only[Say.pieces]
  rcases wE r t1.pieces with bA|AN
  ·refine⟨λhp=>absurd hp (by lia),λ_=>?_⟩;rw[yz,h0,zM (by decide),DG,zM (by decide),zG h1];unfold se;rw[i1.2 bA]
  ·have e:yz x (f+1) (r+1) p=ql x .con t1 (yz x f (r-t1.pieces) (p+1+(tl t1).length+5)):=by
    rw[yz,h0,zM (by decide),DG,zM (by decide),zG h1];unfold se;rw[i1.1 AN];dsimp only
    (rw[zG h2])
   refine⟨λhp=>?_,λhp=>?_⟩
   ·rw[e,e2.1 (by lia),hl,UI]
    congr 3<;>lia
   ·rw[e,e2.2 (by lia)]
 | .bin .dis t1 t2,f+1,r+1,p,rest,hv,hx,hr,hf=>by
  have hl:(tl (.bin .dis t1 t2)).length=1+((tl t1).length+(4+((tl t2).length+1))):=by rw[lf];simp only[zE];rw[wl,rz,rq];rfl
  rw[lf]at hx;simp only[zJ]at hx;have h0:nx x p (lit "not ")=false:=by
   rw[vv];rw[wl]at hx;exact cj hx (by decide)
  have h1:=xk hx;have qE:=yf hx;rw[show(lit "(").length=1 by rw[wl];rfl]at qE;have sI:∀y∈t1.letters,NmV y:=λy hy=>hv y (yU _ hy);have i1:=xg t1 f r (p+1) _ sI qE (by rw[rz];exact xo dc) (by lia);have kP:=yf qE;have h2:=xk kP;have BJ:=yf kP;have hna:nx x (p+1+(tl t1).length) (lit " or ")=true->nx x (p+1+(tl t1).length) (lit " and ")=false:=λ_=>by
   cases hb:nx x (p+1+(tl t1).length) (lit " and ")with
   |false=>rfl
   |true =>
    rename_i hor;obtain⟨w1,e1⟩:=yP.mp hb;obtain⟨w2,e2⟩:=yP.mp hor;rw[<-e2,uw,rz]at e1;simp at e1
  rw[show(lit " or ").length=4 by rw[rz];rfl]at BJ;have DG:nx x p (lit "(if ")=false:=by
   cases hb:nx x p (lit "(if ")with
   |false=>rfl
   |true =>
    obtain⟨w,hw⟩:=yP.mp hb;rw[hx,tw,wl,rz]at hw;exact(Vx (t:=t1) (w:=w) sI (xo dc) (by simpa using hw)).elim
  have i2:=xg t2 f (r-t1.pieces) (p+1+(tl t1).length+4) _ (λy hy=>hv y (zQ _ hy)) BJ (by rw[rq];exact xo Q5) (by lia);have e2:=Wf (o:=.dis) (t1:=t1) i2 BJ;have UI:(Say.bin .dis t1 t2).pieces=t1.pieces+t2.pieces+1:=by simp only[Say.pieces]
  rcases wE r t1.pieces with bA|AN
  ·refine⟨λhp=>absurd hp (by lia),λ_=>?_⟩;rw[yz,h0,zM (by decide),DG,zM (by decide),zG h1];unfold se;rw[i1.2 bA]
  ·have e:yz x (f+1) (r+1) p=ql x .dis t1 (yz x f (r-t1.pieces) (p+1+(tl t1).length+4)):=by
    rw[yz,h0,zM (by decide),DG,zM (by decide),zG h1];unfold se;rw[i1.1 AN];dsimp only
    (rw[zM (by rw[hna h2];decide),zG h2])
   refine⟨λhp=>?_,λhp=>?_⟩
   ·rw[e,e2.1 (by lia),hl,UI]
    congr 3<;>lia
   ·rw[e,e2.2 (by lia)]
theorem wg(x y:Str):(x++y).length=x.length+y.length:=yo x y
theorem nq:(Str.ofString "abcdefghijklmnopqrstuvwxyz").cps.toList.length=26:=by decide +kernel
theorem alets_len':(Str.ofString "abcdefghijklmnopqrstuvwxyz").length=26:=by decide +kernel
theorem fh:okS (Str.ofString "abcdefghijklmnopqrstuvwxyz"):=by unfold okS;decide +kernel
theorem k9:(Str.ofString "qzkxw").length=5:=by decide +kernel
theorem Nq:okS (Str.ofString "qzkxw"):=by unfold okS;decide +kernel
theorem L5:okS (Str.ofString ""):=by unfold okS;decide +kernel
theorem Gd:(Str.ofString "x").length=1:=by decide +kernel
theorem pd{x y:Str}(h1:okS x)(h2:okS y):okS (x++y):=λc h=>by
 rw[yX,zP]at h;rcases zK.mp h with z|z
 ·exact h1 c z
 ·exact h2 c z
theorem ac{x:Str}{c:Nat}(h1:okS x)(h:c∈x.cps.toList):okS (⟨#[c]⟩:Str):=λd hd=>by
 rw[show d=c by simpa using hd];exact h1 c h
theorem re{x:Str}(h1:okS x)(l u:Option Int):okS (Txt.slice x l u):=λd hc=>by
 unfold Txt.slice at hc;split at hc
 ·exact h1 d hc
 ·have DH:d∈List.filterMap (λi=>x.cps[i]?) (Builtin.Str.strSliceIndices l u 1 x.length):=by simpa using hc
  obtain⟨i,_,hi⟩:=List.mem_filterMap.mp DH;exact h1 d (by have:=Array.mem_of_getElem? hi;simpa using this)
theorem uf{x:Str}{j:Int}(h0:0<=j)(h2:j<=x.length):(Txt.slice x none (some j)).length=j.toNat:=by
 rw[wM.mp (slice_closes_toL h0 h2)];have hx:x.cps.toList.length=x.length:=by simp[Str.length]
 show(List.take _ _).toArray.size=_;rw[zN,wD,xY,hx];lia
theorem ku{x:Str}{j:Int}(h0:0<=j)(h2:j<=x.length):(Txt.slice x (some j) none).length=x.length-j.toNat:=by
 obtain⟨n,rfl⟩:=Int.eq_ofNat_of_zero_le h0;rw[qd];show(List.drop _ _).toArray.size=_;rw[zN,xY,ym]
 rfl
theorem Ny:∀y∈wordsL,NmV (Str.ofString "x"++y):=by
 have h:∀y∈wordsL,vn (Str.ofString "x"++y).cps.toList=true/\∀c∈(Str.ofString "x"++y).cps.toList,small c=true:=by decide +kernel
 exact h
def Ra:Sp:=λvs H Q _=>∃x:Str,vs=[.str x]/\1<=x.length/\x.length<=6/\okS x/\∀(y:Str)(H':Hp),Same H H'->NmV y->Q (.str y) H'
theorem sc_safe:zm ["_law_name"] ["_law_name"] (zy (top 42)):=⟨rfl,rfl,rfl,by decide +kernel,rfl,by decide +kernel,by decide +kernel⟩
theorem Mc(D:Def K mg "_law_safe" (top 42) ["_law_name"]):zh P w K mg base 1 "_law_safe" ["_law_name"] Ra:=by
 refine D.callee sc_safe (λvs H Q E h=>?_) λf cdv A outer s H vs Q E hr h=>?_
 ·obtain⟨x,rfl,_⟩:=h
  rfl
 have nd:=sc_safe.nd;obtain⟨x,rfl,qE,hx,ho,q⟩:=h;refine⟨[some (.str x)],_,rfl,(zz (za (zc Hs (z8 0) (zd (z9 z7 (z9 z7 (z9 z7 (z9 z7 (z9 z7 (z9 z7 (z9 z7 z4)))))))) (by with_unfolding_all rfl)) (zx (zk (z6 z5 z7 (z8 0)))) zi)
  (zx (zk (z8 0)))),?_⟩
 walk_at"rp";refine⟨zt (by simp),λp H1 n1 s1 e1=>?_⟩;refine⟨_,.inl (SqL.of e1),rfl,rfl,?_⟩;walk_at"rp";rw[show([V.str (Str.ofString "not"),V.str (Str.ofString "and"),V.str (Str.ofString "or"),V.str (Str.ofString "if"),V.str (Str.ofString "then"),V.str (Str.ofString "say"),V.str (Str.ofString "judge")]:List V)=wordsL.map V.str from rfl,Z6];refine xi (λc=>?_) (λc=>?_)
 ·obtain⟨y,hy,e⟩:=wX.mp c;have e':=eq_of_beq e;subst e';exact⟨zt (by rw[Gd];lia),q _ H1 s1 (Ny y hy)⟩
 ·refine q _ H1 s1 ⟨?_,ho⟩;have hnw:x∉wordsL:=λz=>c (wX.mpr ⟨x,z,uJ _⟩);have hl:=ym x;unfold vn;have e:(⟨x.cps.toList.toArray⟩:Str)=x:=by simp
  rw[e,yV hnw,yV (show¬6<x.cps.toList.length by lia),yV λz=>by rw[z]at hl;simp at hl;lia]
  rfl
def Vq(K:W.Frag):Sp:=λvs H Q _=>∃(a:Addr)(ns:List Int)(k m:Int),vs=[.ref a,.int k,.int m]/\SqL K H a (ns.map V.int)/\ns.length<=5000/\0<=k/\k<=1000/\1<=m/\m<=5 /\
 ∀(p:Addr)(H':Hp)(xs:List Str),H p=none->Same H H'->H' p=some (.lst (xs.map V.str))->(xs.length:Int)=m->(∀x∈xs,NmV x)->Q (.ref p) H'
theorem Rt{C:Str->Hp->Prop}{G:Prop}{B:Str->Hp->Prop}(h:(∀w Ho,C w Ho->B w Ho)->G)(hr:∀w Ho,C w Ho->B w Ho):G:=h hr
theorem Lb{xs:List Str}(hx:∀x∈xs,x.length<=5/\okS x){k:Int}(h0:0<=k)(h:k<(xs.length:Int)):∃x:Str,atI (xs.map V.str) k=some (.str x)/\x.length<=5/\okS x:=by
 obtain⟨v,hv,e⟩:=tf (xs:=xs.map V.str) h0 (by rw[zV];exact h);obtain⟨x,qE,rfl⟩:=yW.mp hv;exact⟨x,e,hx x qE⟩
def wds:List Str:=[Str.ofString "no",Str.ofString "an",Str.ofString "o",Str.ofString "i",Str.ofString "the",Str.ofString "sa",Str.ofString "judg",Str.ofString "nd",Str.ofString "ot",Str.ofString "f"]
theorem Kc:∀x∈wds,x.length<=5/\okS x:=by unfold okS;decide +kernel
theorem sc_names:zm ["_law_script","_law_k","_law_many","_law_letters","_law_word","_law_j","_law_first","_law_at"] ["_law_script","_law_k","_law_many"] (zy (top 43)):=⟨rfl,rfl,rfl,by decide +kernel,rfl,by decide +kernel,by decide +kernel⟩
theorem Pw(D:Def K mg "_law_names" (top 43) ["_law_script","_law_k","_law_many"])(aP:zh P w K mg base 2 "_law_pick" ["_law_script","_law_k","_law_many"] (k6 K))(nG:zh P w K mg base 1 "_law_safe" ["_law_name"] Ra)(aD:mg "len"=none)(aQ:mg "range"=none):zh P w K mg base 3 "_law_names" ["_law_script","_law_k","_law_many"] (Vq K):=by
 refine D.callee sc_names (λvs H Q E h=>?_) λf cdv A outer s H vs Q E hr h=>?_
 ·obtain⟨a,ns,k,m,rfl,_⟩:=h
  rfl
 have nd:=sc_names.nd;obtain⟨a,ns,k,m,rfl,hS,pA,h0,hk,hm,hm5,q⟩:=h;refine⟨[some (.ref a),some (.int k),some (.int m),none,none,none,none,none],_,rfl,(@zz _ _ _ _ _ (@zn _ 3 _ _ _ _ _ nd z7 (by rfl) (by first|exact Or.inl rfl|exact Or.inr rfl) (by rfl) (by first|exact .inl rfl|exact .inr rfl))
  (@zz _ _ _ _ _ (@zn _ 4 _ _ _ _ _ nd z7 (by rfl) (by first|exact Or.inl rfl|exact Or.inr rfl) (by rfl) (by first|exact .inl rfl|exact .inr rfl))
  (@zz _ _ _ _ _ (uk xV rfl (vm rfl aQ (z9 (zg aP hr (by lia) (z9 (z8 0) (z9 (z8 1) (z9 zv z4)))) z4)) (ve 5 nd) (@zx _ _ _ (@zn _ 4 _ _ _ _ _ nd (z6 z5 (z8 4) (vy (z8 3) (zg aP hr (by lia) (z9 (z8 0) (z9 (z6 z5 (z6 z5 (z8 1) (z6 r9 zv (z8 5))) zv) (z9 zv z4)))) (λ_ _=>rfl))) (by rfl) (by first|exact Or.inl rfl|exact Or.inr rfl) (by rfl) (by first|exact .inl rfl|exact .inr rfl))))
  (@zz _ _ _ _ _ (za (zc (wb hr.units) (zg aP hr (by lia) (z9 (z8 0) (z9 (z6 z5 (z8 1) zv) (z9 zv z4)))) zv (ze _)) (@zx _ _ _ (@zn _ 4 _ _ _ _ _ nd (vy (zd (z9 z7 (z9 z7 (z9 z7 (z9 z7 (z9 z7 (z9 z7 (z9 z7 (z9 z7 (z9 z7 (z9 z7 z4))))))))))) (zg aP hr (by lia) (z9 (z8 0) (z9 (z6 z5 (z8 1) zv) (z9 zv z4)))) (λ_ _=>rfl)) (by rfl) (by first|exact Or.inl rfl|exact Or.inr rfl) (by rfl) (by first|exact .inl rfl|exact .inr rfl))) zi)
  (@zz _ _ _ _ _ (@zn _ 6 _ _ _ _ _ nd (zg aP hr (by lia) (z9 (z8 0) (z9 (z6 z5 (z8 1) zv) (z9 zv z4)))) (by rfl) (by first|exact Or.inl rfl|exact Or.inr rfl) (by rfl) (by first|exact .inl rfl|exact .inr rfl))
  (@zz _ _ _ _ _ (za (zc (wb hr.units) (zg aP hr (by lia) (z9 (z8 0) (z9 (z6 z5 (z8 1) zv) (z9 zv z4)))) zv (ze _)) (@zz _ _ _ _ _ (@zn _ 4 _ _ _ _ _ nd (vz (z6 z5 (z6 z5 (z8 4) (vy (z8 3) (z8 6) (λ_ _=>rfl))) z7) vb (uo zv)) (by rfl) (by first|exact Or.inl rfl|exact Or.inr rfl) (by rfl) (by first|exact .inl rfl|exact .inr rfl))
  (@zx _ _ _ (zk (vx (ixs:=[4]) (xq (own:=["_law_j"]) (N:=["_law_word"]) rfl rfl rfl rfl rfl rfl rfl (by decide +kernel) rfl rfl rfl) rfl (vm rfl aQ (z9 (z8 2) z4)) (λ_ _ _ _=>v8) (λ_ _ _ _=>(zg nG hr (by lia) (z9 (vz (z8 1) vb (uo (z6 z5 (z8 0) zv))) z4))) rfl)))) zi)
  (@zz _ _ _ _ _ (@zn _ 7 _ _ _ _ _ nd (zg aP hr (by lia) (z9 (z8 0) (z9 (z6 z5 (z8 1) zv) (z9 (z6 z5 (zq ya rfl aD yp (z9 (z8 4) z4)) zv) z4)))) (by rfl) (by first|exact Or.inl rfl|exact Or.inr rfl) (by rfl) (by first|exact .inl rfl|exact .inr rfl))
  (@zx _ _ _ (zk (vx (ixs:=[4,7,3,6]) (xq (own:=["_law_j"]) (N:=["_law_word","_law_at","_law_letters","_law_first"]) rfl rfl rfl rfl rfl rfl rfl (by decide +kernel) rfl rfl rfl) rfl (vm rfl aQ (z9 (z8 2) z4)) (λ_ _ _ _=>v8) (λ_ _ _ _=>(zg nG hr (by lia) (z9 (z6 z5 (z6 z5 (vz (z8 1) vb (uo (z8 2))) (vy (z8 3) (z6 vk (z6 z5 (z8 4) (z6 r9 zv (z8 0))) zv) (λ_ _=>rfl))) (vz (z8 1) (uo (z8 2)) vb)) z4))) rfl)))))))))),?_⟩
 simp only[Zm];walk_at"rs";simp only[Zm];walk_at"rs";simp only[Zm];walk_at"rs";refine⟨a,ns,k,6,rfl,hS,pA,h0,by lia,by decide,λr r0 r6=>?_⟩;walk_at"rs";refine⟨⟨by lia,by lia⟩,?_⟩;refine ua (λi σ H'=>∃(word:Str)(jv:Option V),σ=[some (.ref a),some (.int k),some (.int m),some (.str "abcdefghijklmnopqrstuvwxyz"),some (.str word),jv,none,none]/\H'=H/\word.length=i/\i<=5/\okS word) ⟨_,none,rfl,rfl,rfl,by decide,L5⟩ ?_ ?_
 ·rintro i σ H' hi ⟨word,jv,rfl,rfl,hw,hi5,hok⟩;walk_at"rp";refine⟨cm (by lia),a,ns,_,26,rfl,hS,pA,by lia,by lia,by decide,λr' r0' r21=>?_⟩;walk_at"rp";obtain⟨c,hc,ec⟩:=tf (xs:=(Str.ofString "abcdefghijklmnopqrstuvwxyz").cps.toList) r0' (by rw[nq];exact r21);refine⟨by rw[alets_len'];exact zt (by decide),c,ec,?_,?_⟩
  ·show word.length+1<=sizeLine;exact zt (by lia)
  ·refine⟨_,_,rfl,trivial,?_,by lia,pd hok (ac fh hc)⟩;rw[wg,hw]
   rfl
 ·rintro σ H' ⟨word,jv,rfl,rfl,hw,hw5,hok⟩;simp only[Zm];refine Rt (C:=λw Ho=>w.length<=5/\okS w/\Same H' Ho) (B:=?B) (λrest=>?h) ?hr
  case h =>
   walk_at"rs";refine⟨a,ns,k+2,3,rfl,hS,pA,by lia,by lia,by decide,λw3 _ _=>?_⟩;walk_at"rs";refine xi (λc=>?_) (λc=>?_)
   ·walk_at"rs";refine⟨zt (by simp),λp H1 n1 s1 e1=>?_⟩;refine⟨a,ns,k+1,10,rfl,s1.seq hS,pA,by lia,by lia,by decide,λj j0 j10=>?_⟩;walk_at"rs";obtain⟨x,ex,qE,kP⟩:=Lb (xs:=wds) Kc j0 j10;refine⟨_,_,.inl (SqL.of e1),ex,?_⟩;exact rest x H1 ⟨qE,kP,s1⟩
   ·exact rest word H' ⟨by lia,hok,Same.refl _⟩
  rintro word Ho ⟨hw5,hok,so⟩;walk_at"rp";have HU:=so.seq hS;refine⟨a,ns,k+3,26,rfl,HU,pA,by lia,by lia,by decide,λfirst f0 f21=>?_⟩;walk_at"rp";refine⟨a,ns,k+4,3,rfl,HU,pA,by lia,by lia,by decide,λw3 _ _=>?_⟩;walk_at"rp";refine xi (λc=>?_) (λc=>?_)
  ·obtain⟨cc,hcc,ec⟩:=tf (xs:=(Str.ofString "abcdefghijklmnopqrstuvwxyz").cps.toList) f0 (by rw[nq];exact f21);refine⟨by rw[alets_len'];exact zt (by decide),cc,ec,?_⟩;have l1:(word++(⟨#[cc]⟩:Str)).length<=6:=by
    rw[wg];show word.length+1<=6;lia
   refine⟨zt (by show word.length+1<=1000;lia),zt (by rw[k9];lia),zt (by rw[wg,k9];lia),⟨by lia,by lia⟩,?_⟩;have l2:(Txt.slice (word++{ cps:=#[cc] }++Str.ofString "qzkxw") none (some 6)).length=6:=by
    have hz:((word++(⟨#[cc]⟩:Str))++Str.ofString "qzkxw").length=word.length+1+5:=by rw[wg,wg,k9];rfl
    exact(uf (by decide) (by rw[hz];lia)).trans rfl
   have o2:okS (Txt.slice (word++{ cps:=#[cc] }++Str.ofString "qzkxw") none (some 6)):=re (pd (pd hok (ac fh hcc)) Nq) _ _;generalize Txt.slice (word++{ cps:=#[cc] }++Str.ofString "qzkxw") none (some 6)=word' at l2 o2;intro C s₀ H₀ ex;refine pq (λD i ys H1=>∃xs:List Str,ys=xs.map V.str/\xs.length=i/\(∀x∈xs,NmV x)/\H1 D=some (.lst ys)/\Same Ho H1/\Ho D=none) (zt (by lia)) ?_ ?_ ?_ ?_
   ·intro D H2 n s2 e2;exact⟨[],rfl,rfl,(by simp),e2,s2,n⟩
   ·rintro D i ys H1 ⟨xs,rfl,hl,_,e,_⟩;exact⟨e,by simpa using hl⟩
   ·rintro D i ys H1 hi ⟨xs,rfl,hl,hx,e,s1,n1⟩;walk_at"rp";have b1:=uf (x:=word') (j:=0+(i:Int)+1) (by lia) (by lia);refine⟨zt (by lia),_,rfl,by lia,by lia,re o2 _ _,λy H2 s2 hy=>⟨s2 _ _ e,CN.mk hi ⟨xs++[y],(by rw[yM];rfl),(by rw[zE,hl];rfl),λx EJ=>?_,zu,zf (s1.trans s2) n1 _,n1⟩⟩⟩;rcases zK.mp EJ with z|z
    ·exact hx x z
    ·rw[zX.mp z];exact hy
   ·rintro D ys H1 ⟨xs,rfl,hl,hx,e,s1,n1⟩;exact q D H1 xs (y9 so n1) (so.trans s1) e (by rw[hl];lia) hx
  ·refine⟨zt (by lia),a,ns,k+5,_,rfl,HU,pA,by lia,by lia,by lia,λat_ t0 tl=>?_⟩;walk_at"rp";refine⟨⟨by lia,by lia⟩,?_⟩;intro C s₀ H₀ ex;refine pq (λD i ys H1=>∃xs:List Str,ys=xs.map V.str/\xs.length=i/\(∀x∈xs,NmV x)/\H1 D=some (.lst ys)/\Same Ho H1/\Ho D=none) (zt (by lia)) ?_ ?_ ?_ ?_
   ·intro D H2 n s2 e2;exact⟨[],rfl,rfl,(by simp),e2,s2,n⟩
   ·rintro D i ys H1 ⟨xs,rfl,hl,_,e,_⟩;exact⟨e,by simpa using hl⟩
   ·rintro D i ys H1 hi ⟨xs,rfl,hl,hx,e,s1,n1⟩;walk_at"rp";obtain⟨c2,BV,ec⟩:=tf (xs:=(Str.ofString "abcdefghijklmnopqrstuvwxyz").cps.toList) (k:=(first+5*(0+(i:Int))) % 26) (wP _ (by decide)) (by rw[nq];exact wZ _ (by decide));have b1:=uf (x:=word) (j:=at_) t0 (by lia);have b2:=ku (x:=word) (j:=at_) t0 (by lia);have sL:(⟨#[c2]⟩:Str).length=1:=rfl;have b3:(Txt.slice word none (some at_)++(⟨#[c2]⟩:Str)).length<=6:=by
     rw[wg];show(Txt.slice word none (some at_)).length+1<=6;lia
    refine⟨zt (by lia),cm (by lia),(by decide),(by rw[alets_len'];exact zt (by decide)),c2,ec,zt (by show(Txt.slice word none (some at_)).length+1<=1000;lia),zt (by lia),zt (by lia),_,rfl,by rw[wg,wg,sL];lia,by rw[wg,wg,sL];lia,pd (pd (re hok _ _) (ac fh BV)) (re hok _ _),λy H2 s2 hy=>⟨s2 _ _ e,
     CN.mk hi ⟨xs++[y],(by rw[yM];rfl),(by rw[zE,hl];rfl),λx EJ=>?_,zu,zf (s1.trans s2) n1 _,n1⟩⟩⟩
    rcases zK.mp EJ with z|z
    ·exact hx x z
    ·rw[zX.mp z];exact hy
   ·rintro D ys H1 ⟨xs,rfl,hl,hx,e,s1,n1⟩;exact q D H1 xs (y9 so n1) (so.trans s1) e (by rw[hl];lia) hx
theorem Sv:W.kitOne K (.type "str") (.type "bool")=some false:=by rfl
theorem Sw:W.kitOne K (.type "tuple") (.type "bool")=some false:=by rfl
theorem Sy:W.kitOne K (.type "tuple") (.type "str")=some false:=by rfl
theorem Sx:W.kitOne K (.type "tuple") (.type "int")=some false:=by rfl
theorem b7:W.kitOne K (.type "tuple") (.type "list")=some false:=by rfl
def SmT(K:W.Frag)(H:Hp):Nat->V->V->Prop
 |0,_,_=>False
 |d+1,v,u=>(∃b,v = .bl b/\u = .bl b)\/(∃s,v = .str s/\u = .str s)\/∃(a b:Addr)(xs ys:List V),v = .ref a/\u = .ref b/\(SqT K H a xs/\SqT K H b ys)/\xs.length=ys.length/\∀(i:Nat)(x y:V),xs[i]?=some x->ys[i]?=some y->SmT K H d x y
theorem SmT.mono{H H':Hp}(s:Same H H'):∀{d:Nat}{v u:V},SmT K H d v u->SmT K H' d v u
 |0,_,_,h=>h.elim
 |d+1,v,u,h=>h.imp id λh=>h.imp id λ⟨a,b,xs,ys,e1,e2,hq,hl,hx⟩=>⟨a,b,xs,ys,e1,e2,⟨(zw s).sqT hq.1,(zw s).sqT hq.2⟩,hl,λi x y h1 h2=>SmT.mono s (hx i x y h1 h2)⟩
theorem SmT.le{H:Hp}:∀{d d':Nat}{v u:V},d<=d'->SmT K H d v u->SmT K H d' v u
 |0,_,_,_,_,h=>h.elim
 |d+1,0,_,_,l,_=>absurd l (by lia)
 |d+1,d'+1,v,u,l,h=>h.imp id λh=>h.imp id λ⟨a,b,xs,ys,e1,e2,hq,hl,hx⟩=>⟨a,b,xs,ys,e1,e2,hq,hl,λi x y h1 h2=>SmT.le (Nat.le_of_succ_le_succ l) (hx i x y h1 h2)⟩
theorem aw{H:Hp}(x:Str)(d:Nat):SmT K H (d+1) (.str x) (.str x):=.inr (.inl ⟨x,rfl,rfl⟩)
def Rb(K:W.Frag)(d:Nat):Sp:=λvs H Q _=>∃v u:V,vs=[v,u]/\SmT K H d v u/\∀H',Same H H'->Q (.bl true) H'
theorem sc_same:zm ["_law_found","_law_due","_law_one","_law_other"] ["_law_found","_law_due"] (zy (top 44)):=⟨rfl,rfl,rfl,by decide +kernel,rfl,by decide +kernel,by decide +kernel⟩
theorem U4(D:Def K mg "_law_same" (top 44) ["_law_found","_law_due"])(aD:mg "len"=none)(aA:mg "isinstance"=none)(aH:mg "tuple"=none)(jI:mg "list"=none)(cQ:mg "bool"=none)(lY:mg "int"=none)(fZ:mg "str"=none)(oY:mg "zip"=none):∀d:Nat,zh P w K mg base d "_law_same" ["_law_found","_law_due"] (Rb K d)
 |0=>v7 D λvs H Q E h=>by
  obtain⟨v,u,_,h,_⟩:=h;exact h.elim
 |d+1=>by
  have eG:=U4 D aD aA aH jI cQ lY fZ oY d;refine D.callee sc_same (λvs H Q E h=>?_) λf cdv A outer s H vs Q E hr h=>?_
  ·obtain⟨v,u,rfl,_⟩:=h
   rfl
  have nd:=sc_same.nd;obtain⟨v,u,rfl,h,q⟩:=h;refine⟨[some v,some u,none,none],_,rfl,(zz (za (xw (zq ul rfl aA zo (z9 (z8 1) (z9 (yc (v:=.ty "bool") rfl cQ lu rfl) z4)))) (zx (zk (ce (zq ul rfl aA zo (z9 (z8 0) (z9 (yc (v:=.ty "bool") rfl cQ lu rfl) z4))) (p0 (va (wb hr.units) (z8 0) (z8 1) (ze _)))))) zi)
  (zz (za (xw (zq ul rfl aA zo (z9 (z8 1) (z9 (yc (v:=.ty "str") rfl fZ V7 rfl) z4)))) (zx (zk (ce (zq ul rfl aA zo (z9 (z8 0) (z9 (yc (v:=.ty "str") rfl fZ V7 rfl) z4))) (p0 (va (wb hr.units) (z8 0) (z8 1) (ze _)))))) zi)
  (zz (za (xw (zq ul rfl aA zo (z9 (z8 1) (z9 (yc (v:=.ty "int") rfl lY Oe rfl) z4)))) (zx (zk (ce (zq ul rfl aA zo (z9 (z8 0) (z9 (yc (v:=.ty "int") rfl lY Oe rfl) z4))) (ce (Pf (zq ul rfl aA zo (z9 (z8 0) (z9 (yc (v:=.ty "bool") rfl cQ lu rfl) z4)))) (p0 (va (wb hr.units) (z8 0) (z8 1) (ze _))))))) zi)
  (zz (za (PW.pt (su (zc (Lx hr.units) (zq ul rfl aA zo (z9 (z8 1) (z9 (yc (v:=.ty "list") rfl jI Ur rfl) z4))) (zq ul rfl aA zo (z9 (z8 0) (z9 (yc (v:=.ty "list") rfl jI Ur rfl) z4))) (ze _)) (ud (zc (Lx hr.units) (zq ul rfl aA zo (z9 (z8 1) (z9 (yc (v:=.ty "tuple") rfl aH xn rfl) z4))) (zq ul rfl aA zo (z9 (z8 0) (z9 (yc (v:=.ty "tuple") rfl aH xn rfl) z4))) (ze _))))) (zx (zk yj)) zi)
  (zz (za (zc (Lx hr.units) (zq ya rfl aD yp (z9 (z8 0) z4)) (zq ya rfl aD yp (z9 (z8 1) z4)) (ze _)) (zx (zk yj)) zi)
  (zz (uk xV rfl (Hv rfl oY (z9 (z8 0) (z9 (z8 1) z4))) (Kr 2 3 rfl nd) (zx (za (wu (xw (zg eG hr (by lia) (z9 (z8 2) (z9 (z8 3) z4))))) (zx (zk yj)) zi)))
  (zx (zk yj)))))))),?_⟩
  rcases h with⟨i,rfl,rfl⟩|⟨z,rfl,rfl⟩|⟨a,b,xs,ys,rfl,rfl,hq,hl,hx⟩
  ·walk_at"rp";refine⟨_,true,.of (.bl _),wx _,?_⟩;walk_at"rp";refine⟨_,true,.of (.bl _),wx _,?_⟩;walk_at"rp"
   try rw[zI rfl]
   exact q H (Same.refl _)
  ·walk_at"rp";refine⟨_,false,.of (.str _),Sv,?_⟩;walk_at"rp";refine⟨_,true,.of (.str _),wx _,?_⟩;walk_at"rp";refine⟨_,true,.of (.str _),wx _,?_⟩;walk_at"rp"
   try rw[zI rfl]
   exact q H (Same.refl _)
  ·have fB:=hq.2;have KG:=hq.1;walk_at"rp";refine⟨_,false,.tup fB,Sw,?_⟩;walk_at"rp";refine⟨_,false,.tup fB,Sy,?_⟩;walk_at"rp";refine⟨_,false,.tup fB,Sx,?_⟩;walk_at"rp";refine⟨_,_,.tup fB,b7,_,_,.tup KG,b7,?_⟩
   try rw[zI rfl]
   walk_at"rp";refine⟨_,_,.tup fB,wx _,_,_,.tup KG,wx _,?_⟩
   try rw[zI rfl]
   walk_at"rp";refine⟨_,.inr KG,_,.inr fB,?_⟩;rw[hl]
   try rw[zI rfl]
   walk_at"rp";refine⟨⟨⟨_,KG⟩,⟨_,fB⟩⟩,S4 (xs:=xs) (ys:=ys) (λi σ H2=>(∃x2 x3,σ=[some (.ref a),some (.ref b),x2,x3])/\Same H H2) hl ⟨⟨none,none,rfl⟩,Same.refl H⟩ ?_ ?_ ?_⟩
   ·rintro i σ H2 _ ⟨⟨x2,x3,rfl⟩,s2⟩;exact⟨(zw s2).sqT KG,(zw s2).sqT fB⟩
   ·rintro i x y σ H2 H3 h1 h2 ⟨⟨x2,x3,rfl⟩,s2⟩ s3;walk_at"rp";refine⟨x,y,rfl,(hx i x y h1 h2).mono (s2.trans s3),λH4 s4=>?_⟩;walk_at"rp";exact⟨⟨_,_,rfl⟩,s2.trans (s3.trans s4)⟩
   ·rintro σ H2 ⟨⟨x2,x3,rfl⟩,s2⟩;walk_at"rp";exact q H2 s2
theorem pf{H:Hp}:∀{t:Say}{v u:V},SayAt K H v t->SayAt K H u t->SmT K H (t.pieces+1) v u
 | .letter x,v,u,h,h'=>by
  obtain⟨a,rfl,ha⟩:=h;obtain⟨b,rfl,hb⟩:=h';refine .inr (.inr ⟨a,b,_,_,rfl,rfl,⟨ha,hb⟩,rfl,λi x y h1 h2=>?_⟩);rw[h1]at h2;cases h2;rcases zL.mp (zB h1)with e|e
  ·rw[e];exact aw _ _
  ·rw[zX.mp e];exact aw _ _
 | .neg t,v,u,h,h'=>by
  obtain⟨a,v1,rfl,ha,hv⟩:=h;obtain⟨b,u1,rfl,hb,hu⟩:=h';have i1:=pf hv hu;refine .inr (.inr ⟨a,b,_,_,rfl,rfl,⟨ha,hb⟩,rfl,λi x y h1 h2=>?_⟩)
  match i,h1,h2 with
  |0,h1,h2=>cases h1;cases h2;exact SmT.le (d:=1) (by simp only[Say.pieces];lia) (aw _ _)
  |1,h1,h2=>cases h1;cases h2;exact SmT.le (by simp only[Say.pieces];lia) i1
  |i+2,h1,h2=>simp at h1
 | .bin o t1 t2,v,u,h,h'=>by
  obtain⟨a,v1,v2,rfl,ha,sI,GX⟩:=h;obtain⟨b,u1,u2,rfl,hb,hu1,hu2⟩:=h';have i1:=pf sI hu1;have i2:=pf GX hu2;have p1:=t1.pieces_pos;have p2:=t2.pieces_pos;refine .inr (.inr ⟨a,b,_,_,rfl,rfl,⟨ha,hb⟩,rfl,λi x y h1 h2=>?_⟩)
  match i,h1,h2 with
  |0,h1,h2=>cases h1;cases h2;exact SmT.le (d:=1) (by simp only[Say.pieces];lia) (aw _ _)
  |1,h1,h2=>cases h1;cases h2;exact SmT.le (by simp only[Say.pieces];lia) i1
  |2,h1,h2=>cases h1;cases h2;exact SmT.le (by simp only[Say.pieces];lia) i2
  |i+3,h1,h2=>simp at h1
theorem Ng{H:Hp}{a b:Addr}{k:List Bool}(h:SqT K H a (k.map V.bl))(h':SqT K H b (k.map V.bl)):SmT K H 2 (.ref a) (.ref b):=.inr (.inr ⟨a,b,_,_,rfl,rfl,⟨h,h'⟩,rfl,λi x y h1 h2=>by
 rw[h1]at h2;cases h2;obtain⟨c,_,rfl⟩:=yW.mp (zB h1);exact .inl ⟨c,rfl,rfl⟩⟩)
theorem Q6{H:Hp}{p q b j b' j':Addr}{us us':List V}{ts:List Say}{J J':List (Addr×List Bool)}(hp:SqT K H p [.ref b,.ref j])(hq:SqT K H q [.ref b',.ref j'])(hb:SqT K H b us)(hT:SaysAt K H us ts)(fB:SqT K H b' us')(hT':SaysAt K H us' ts)(HC:∀t∈ts,t.pieces<=40)(hj:SqT K H j (J.map λq=>V.ref q.1))(hJ:∀q∈J,SqT K H q.1 (q.2.map V.bl))(JW:SqT K H j' (J'.map λq=>V.ref q.1))(hJ':∀q∈J',SqT K H q.1 (q.2.map V.bl))(e:J.map (·.2)=J'.map (·.2)):SmT K H 43 (.ref p) (.ref q):=by
 refine .inr (.inr ⟨p,q,_,_,rfl,rfl,⟨hp,hq⟩,rfl,λi x y h1 h2=>?_⟩)
 match i,h1,h2 with
 |0,h1,h2 =>
  cases h1;cases h2;refine .inr (.inr ⟨b,b',_,_,rfl,rfl,⟨hb,fB⟩,by rw[hT.len,hT'.len],λi x y h1 h2=>?_⟩);obtain⟨t,ht,hs⟩:=hT.at i x h1;obtain⟨t',DB,CL⟩:=hT'.at i y h2;rw[ht]at DB;cases DB;have h41:t.pieces+1<=41:=tE (HC t (zB ht));exact SmT.le h41 (pf hs CL)
 |1,h1,h2 =>
  cases h1;cases h2;refine .inr (.inr ⟨j,j',_,_,rfl,rfl,⟨hj,JW⟩,by rw[zV,zV];have:=xH List.length e;rwa [zV,zV]at this,λi x y h1 h2=>?_⟩);rw[yI]at h1 h2;cases e1:J[i]? with
  |none=>rw[e1]at h1;cases h1
  |some q1 =>
  cases e2:J'[i]? with
  |none=>rw[e2]at h2;cases h2
  |some q2 =>
  rw[e1]at h1;rw[e2]at h2;cases h1;cases h2;have ek:q1.2=q2.2:=by
   have:=xH (λl:List (List Bool)=>l[i]?) e;simp only[yI,e1,e2,Option.map_some]at this;exact yT this
  have hk:=hJ' q2 (zB e2);rw[<-ek]at hk;exact SmT.le (by decide) (Ng (hJ q1 (zB e1)) hk)
 |i+2,h1,h2=>simp at h1
def ynT(b:Bool):Str:=if b=true then Str.ofString "y" else Str.ofString "n"
def Tz(k:List Bool):Str:=Txt.join (Str.ofString "") (k.map ynT)
def wz(ts:List Say)(ks:List (List Bool)):List Str:=(ts.map λt=>Str.ofString "say "++t.text)++ks.map λk=>Str.ofString "judge "++Tz k
theorem l_e:(Str.ofString "").length=0:=by decide +kernel
theorem A6:(Str.ofString "\n").length=1:=by decide +kernel
theorem C2:(Str.ofString "say ").length=4:=by decide +kernel
theorem Lo:(Str.ofString "judge ").length=6:=by decide +kernel
theorem A7(b:Bool):(ynT b).length=1:=by cases b<;>decide +kernel
theorem U0(sep:Str)(ys:List Str):(Txt.join sep ys).length<=(ys.map (·.length)).sum+ys.length*sep.length:=by
 show(PySem.Builtin.Str.glued sep ys).length<=_;rw[vW];exact StrLaws.join_length_le sep ys
theorem Rh:∀k:List Bool,((k.map ynT).map (·.length)).sum=k.length
 |[]=>rfl
 |b::k=>by
  rw[List.map_cons,List.map_cons,List.sum_cons,Rh k,A7,yL];lia
theorem Qu(k:List Bool):(Tz k).length<=k.length:=by
 have:=U0 (Str.ofString "") (k.map ynT);rw[Rh,l_e]at this;unfold Tz;lia
theorem Jy{ys:List Str}{b:Nat}(h:∀y∈ys,y.length<=b):(ys.map (·.length)).sum<=ys.length*b:=by
 induction ys with
 |nil=>exact yJ _
 |cons y ys ih =>
  have h1:=h y zD;have h2:=ih λz hz=>h z (zO _ hz);rw[List.map_cons,List.sum_cons,yL,Nat.succ_mul];lia
def Sg(c:Nat):Prop:=32<=c/\c<=122
theorem xj{x y:List Nat}(h1:∀c∈x,Sg c)(h2:∀c∈y,Sg c):∀c∈x++y,Sg c:=List.forall_mem_append.mpr ⟨h1,h2⟩
theorem Jp:∀c∈lit "not ",Sg c:=by rw[vv];unfold Sg;decide
theorem Fj:∀c∈lit "(if ",Sg c:=by rw[tw];unfold Sg;decide
theorem Kw:∀c∈lit "(",Sg c:=by rw[wl];unfold Sg;decide
theorem Q0:∀c∈lit ")",Sg c:=by rw[rq];unfold Sg;decide
theorem Nc:∀c∈lit " then ",Sg c:=by rw[r8];unfold Sg;decide
theorem Jo:∀c∈lit " and ",Sg c:=by rw[uw];unfold Sg;decide
theorem Fk:∀c∈lit " or ",Sg c:=by rw[rz];unfold Sg;decide
theorem l9:lit "say "=[115,97,121,32]:=by decide +kernel
theorem qx:lit "judge "=[106,117,100,103,101,32]:=by decide +kernel
theorem Jq:∀c∈lit "say ",Sg c:=by rw[l9];unfold Sg;decide
theorem Q1:∀c∈lit "judge ",Sg c:=by rw[qx];unfold Sg;decide
theorem ph:∀t:Say,(∀y∈t.letters,NmV y)->∀c∈tl t,Sg c
 | .letter y,h=>λc hc=>by
  have:=sg ((h y (zX.mpr rfl)).2 c hc);unfold Sg;lia
 | .neg t,h=>by rw[si];exact xj Jp (ph t h)
 | .bin .con a b,h=>by rw[lc];exact xj Kw (xj (ph a λy hy=>h y (yU _ hy)) (xj Jo (xj (ph b λy hy=>h y (zQ _ hy)) Q0)))
 | .bin .dis a b,h=>by rw[lf];exact xj Kw (xj (ph a λy hy=>h y (yU _ hy)) (xj Fk (xj (ph b λy hy=>h y (zQ _ hy)) Q0)))
 | .bin .imp a b,h=>by rw[lg];exact xj Fj (xj (ph a λy hy=>h y (yU _ hy)) (xj Nc (xj (ph b λy hy=>h y (zQ _ hy)) Q0)))
theorem kc{y:Str}(h:NmV y):Nm y:=by
 have h1:=h.1;unfold vn at h1;rw[yY,yY]at h1;have hl:=ym y;have h2:¬6<y.cps.toList.length:=λz=>by
  have:=h1.2.1;rw[zI z]at this;cases this
 refine⟨by lia,?_⟩;have e:(⟨y.cps.toList.toArray⟩:Str)=y:=by simp
 rw[<-e];exact nk h.2
theorem rh{t:Say}(hv:∀y∈t.letters,NmV y):sm (tl t)=if t.pieces<=40 then some t else none:=by
 have h:=xg (x:=tl t) t 41 40 0 [] hv (by rw[wL,List.append_nil]) (λc e=>by cases e) (by decide);unfold sm
 by_cases hp:t.pieces<=40
 ·rw[h.1 hp,zG hp];dsimp only;rw[zM (by lia)]
 ·rw[h.2 (by lia),zM hp]
theorem Nv{t:Say}(hp:t.pieces<=60)(hv:∀y∈t.letters,NmV y):xf t.text:=by
 have:=xa t λy hy=>kc (hv y hy);refine⟨by lia,λc hc=>?_⟩;have:=(ph t hv c hc).2;lia
def ynC(b:Bool):Nat:=if b=true then 121 else 110
theorem Ke(b:Bool):(ynT b).cps.toList=[ynC b]:=by cases b<;>decide +kernel
theorem Oy:∀ks:List Nat,jl [] (ks.map λc=>[c])=ks
 |[]=>rfl
 |[c]=>by simp[jl]
 |c::d::ks=>by
  have:=Oy (d::ks);simp only[List.map_cons]at this ⊢;rw[jl,this]
  rfl
theorem M5(k:List Bool):(Tz k).cps.toList=k.map ynC:=by
 show(PySem.Builtin.Str.glued (Str.ofString "") (k.map ynT)).cps.toList=_;rw[vW,qw,xT];rw[show(λp:Str=>p.cps.toList)∘ynT=(λc=>[c])∘ynC from funext Ke,<-xT,show(Str.ofString "").cps.toList=[]by decide +kernel,Oy]
def am(t:Say):Str:=Str.ofString "say "++t.text
def um(k:List Bool):Str:=Str.ofString "judge "++Tz k
theorem mf(t:Say):(am t).cps.toList=lit "say "++tl t:=by
 unfold am;rw[yX,zP];rfl
theorem ui(k:List Bool):(um k).cps.toList=lit "judge "++k.map ynC:=by
 unfold um;rw[yX,zP,M5];rfl
theorem Tu(k:List Bool):eo (um k).cps.toList k.length=some k:=by
 have hd:(um k).cps.toList.drop 6=k.map ynC:=by rw[ui,qx];rfl
 have ha:(k.map ynC).all yn=true:=yS.mpr λc hc=>by
  obtain⟨b,_,rfl⟩:=yW.mp hc;cases b<;>rfl
 have hn:nx (um k).cps.toList 0 (lit "judge ")=true:=xk (z:=k.map ynC) (by rw[wL,ui]);unfold eo;rw[hd,zG ⟨hn,zV _,ha⟩,xT,show((λc=>decide (c=121))∘ynC)=id from funext λb=>by cases b<;>rfl,List.map_id]
theorem Vg:∀(ks:List (List Bool))(ts:List Say)(RG:List (List Bool)),(∀k∈ks,k.length=ts.length)->yl (ks.map um) ts RG=some (ts,RG++ks)
 |[],ts,RG,_=>by rw[List.map_nil,yl,List.append_nil]
 |k::ks,ts,RG,h=>by
  have hn:nx (um k).cps.toList 0 (lit "say ")=false:=by
   rw[l9];exact cj (c:=106) (z:=[117,100,103,101,32]++k.map ynC) (by rw[wL,ui,qx];rfl) (by decide)
  rw[List.map_cons,yl,hn,zM (by rintro⟨z,_⟩;cases z),<-h k zD,Tu];dsimp only;rw[Vg ks ts (RG++[k]) λk' hk=>h k' (zO _ hk),zJ]
  rfl
theorem Vh:∀(ts KO:List Say)(ls:List Str),(∀t∈ts,t.pieces<=40/\∀y∈t.letters,NmV y)->yl (ts.map am++ls) KO []=yl ls (KO++ts) []
 |[],KO,ls,_=>by rw[List.map_nil,tX,List.append_nil]
 |t::ts,KO,ls,h=>by
  have h1:=h t zD;have hn:nx (am t).cps.toList 0 (lit "say ")=true:=xk (z:=tl t) (by rw[wL,mf]);have hd:(am t).cps.toList.drop 4=tl t:=by rw[mf,l9];rfl
  rw[List.map_cons,tD,yl,zG ⟨hn,rfl⟩,hd,rh h1.2,zG h1.1];dsimp only;rw[Vh ts (KO++[t]) ls λt' ht=>h t' (zO _ ht),zJ]
  rfl
theorem Xr{ts:List Say}{ks:List (List Bool)}(h1:∀t∈ts,t.pieces<=40/\∀y∈t.letters,NmV y)(h2:∀k∈ks,k.length=ts.length)(n1:ts≠[])(n2:ks≠[]):sf (wz ts ks)=some (ts,ks):=by
 unfold sf;rw[show wz ts ks=ts.map am++ks.map um from rfl,Vh ts [] _ h1,tX,Vg ks ts [] h2];dsimp only;rw[tX,zM (λz=>z.elim n1 n2)]
theorem Z7{ts:List Say}{ks:List (List Bool)}(h1:∀t∈ts,t.pieces<=40/\∀y∈t.letters,NmV y):∀l∈wz ts ks,∀c∈l.cps.toList,Sg c:=λl hl=>by
 rcases zK.mp hl with z|z
 ·obtain⟨t,ht,rfl⟩:=yW.mp z;rw[show(Str.ofString "say "++t.text)=am t from rfl,mf];exact xj Jq (ph t (h1 t ht).2)
 ·obtain⟨k,hk,rfl⟩:=yW.mp z;rw[show(Str.ofString "judge "++Tz k)=um k from rfl,ui];refine xj Q1 λc hc=>?_;obtain⟨b,_,rfl⟩:=yW.mp hc;cases b
  ·exact⟨by decide,by decide⟩
  ·exact⟨by decide,by decide⟩
theorem Yy{ts:List Say}{ks:List (List Bool)}(h1:∀t∈ts,t.pieces<=40/\∀y∈t.letters,NmV y)(h2:∀k∈ks,k.length<=6):∀l∈wz ts ks,l.length<=2000:=λy hy=>by
 rcases zK.mp hy with z|z
 ·obtain⟨t,ht,rfl⟩:=yW.mp z;have:=xa t λy hy=>kc ((h1 t ht).2 y hy);have:=(h1 t ht).1;rw[yo,C2];lia
 ·obtain⟨k,hk,rfl⟩:=yW.mp z;have:=Qu k;have:=h2 k hk;rw[yo,Lo];lia
def oo(ts:List Say)(ks:List (List Bool)):Str:=Txt.join (Str.ofString "\n") (wz ts ks)
structure WrT(ts:List Say)(ks:List (List Bool)):Prop where
 say:∀t∈ts,t.pieces<=40/\∀y∈t.letters,NmV y
 row:∀k∈ks,k.length=ts.length
 lo:1<=ts.length
 hi:ts.length<=6
 jlo:1<=ks.length
 jhi:ks.length<=21
theorem nz(ts:List Say)(ks:List (List Bool)):(wz ts ks).length=ts.length+ks.length:=by
 unfold wz;rw[zE,zV,zV]
theorem Zr{ts:List Say}{ks:List (List Bool)}(h:WrT ts ks):Txt.split (oo ts ks) (Str.ofString "\n")=wz ts ks:=by
 have hf:∀l∈wz ts ks,10∉l.cps.toList:=λl hl z=>by
  have:=(Z7 h.say l hl 10 z).1;lia
 unfold oo;cases e:wz ts ks with
 |nil =>
  have h1:=nz ts ks;have h2:=h.lo;rw[e,wH]at h1;exact absurd h1 (by lia)
 |cons p ps=>exact k7 (Str.ofString "\n") 10 [] (by decide +kernel) (by decide +kernel) p ps λq hq=>hf q (by rw[e];exact hq)
theorem Uf{ts:List Say}{ks:List (List Bool)}(h:WrT ts ks):xf (oo ts ks):=by
 have h6:∀k∈ks,k.length<=6:=λk hk=>by rw[h.row k hk];exact h.hi
 constructor
 ·have:=U0 (Str.ofString "\n") (wz ts ks);have h2:=Jy (Yy h.say h6);rw[nz]at this h2;rw[A6]at this;have:=h.hi;have:=h.jhi;unfold oo;lia
 ·intro c hc;have DH:c∈(Str.join (Str.ofString "\n") (wz ts ks)).cps.toList:=by rw[<-vW];exact hc
  rw[qw]at DH;rcases Ox DH with z|⟨p,hp,z⟩
  ·rw[show(Str.ofString "\n").cps.toList=[10]by decide +kernel]at z;rw[zX.mp z]
   decide
  ·obtain⟨l,hl,rfl⟩:=yW.mp hp;have:=(Z7 h.say l hl c z).2;lia
theorem S3{ts:List Say}{ks:List (List Bool)}(h:WrT ts ks):∀l∈wz ts ks,xf l:=λl hl=>⟨yQ (Yy h.say (λk hk=>by rw[h.row k hk];exact h.hi) l hl) (by decide),λc hc=>by
 have:=(Z7 h.say l hl c hc).2;lia⟩
def nmL(ν:Bool->Str)(n:Nat):List Nat:=if n=2000000 then(ν false).cps.toList else if n=2000001 then(ν true).cps.toList else[n]
def vl(ν:Bool->Str)(l:List Nat):List Nat:=l.flatMap (nmL ν)
def isN(n:Nat):Bool:=decide (n=2000000)||decide (n=2000001)
def ltr(n:Nat):Bool:=small n||isN n
section
variable {ν:Bool->Str}
theorem ll:vl ν []=[]:=rfl
theorem yd(n:Nat)(l:List Nat):vl ν (n::l)=nmL ν n++vl ν l:=List.flatMap_cons
theorem uu(l m:List Nat):vl ν (l++m)=vl ν l++vl ν m:=List.flatMap_append
theorem qj{n:Nat}(h:isN n=false):nmL ν n=[n]:=by
 unfold isN at h;rw[Bool.or_eq_false_iff]at h;unfold nmL;rw[zM (of_decide_eq_false h.1),zM (of_decide_eq_false h.2)]
theorem ka{n:Nat}(h:isN n=true):∃b,nmL ν n=(ν b).cps.toList:=by
 unfold isN at h;unfold nmL
 by_cases h1:n=2000000
 ·exact⟨false,zG h1⟩
 ·rw[yV h1,Bool.false_or]at h;exact⟨true,by rw[zM h1,zG (zF h)]⟩
def X8(w l:List Nat):Bool:=!decide (w.takeWhile small=w)&&((decide ((⟨(w.takeWhile small).toArray⟩:Str)∈wordsL)&&(match l with|[]=>true|n::_=>!ltr n))||decide ((w.takeWhile small).length<=(l.takeWhile small).length))
def ai:List Nat->List Nat->Option (Option (List Nat))
 |[],l=>some (some l)
 |_::_,[]=>some none
 |a::w,n::l=>if isN n=true then(if small a=true then(if X8 (a::w) l=true then some none else none)else some none)else if a=n then ai w l else some none
theorem Pp(hν:∀b,NmV (ν b)){l:List Nat}(h:(match l with|[]=>true|n::_=>!ltr n)=true):NoL (vl ν l):=by
 cases l with
 |nil=>intro c e;cases e
 |cons n l =>
  have h1:ltr n=false:=by
   cases hb:ltr n with
   |false=>rfl
   |true=>rw[show(match n::l with|[]=>true|n::_=>!ltr n)=!ltr n from rfl,hb]at h;cases h
  unfold ltr at h1;rw[Bool.or_eq_false_iff]at h1;rw[yd,qj h1.2];exact xo h1.1
theorem J8{w m:List Nat}(hw:w.takeWhile small≠w)(h:w <+: m):m.takeWhile small=w.takeWhile small:=by
 obtain⟨z,rfl⟩:=h
 induction w with
 |nil=>exact absurd rfl hw
 |cons a w ih =>
  rw[tD,xP,xP];cases ha:small a with
  |false=>simp
  |true =>
   simp only[if_true];rw[ih λe=>hw (by rw[xP,ha];simp only[if_true];rw[e])]
theorem Zp{l:List Nat}:∀{m:List Nat},(∀c∈m,small c=true)->(m++l).takeWhile small=m++l.takeWhile small
 |[],_=>rfl
 |a::m,h=>by
  rw[tD,xP,h a zD];simp only[if_true];rw[Zp λc hc=>h c (zO _ hc)]
  rfl
theorem T2{c:Nat}(h:small c=true):isN c=false:=by
 have:=sg h;unfold isN;rw[yV (by lia),yV (by lia)]
 rfl
theorem J7(l:List Nat):(l.takeWhile small).length<=((vl ν l).takeWhile small).length:=by
 induction l with
 |nil=>exact zT _
 |cons n l ih =>
  rw[xP];cases hn:small n with
  |false=>simp
  |true =>
   simp only[if_true];rw[yd,qj (T2 hn),List.singleton_append,xP,hn];simp only[if_true];exact tE ih
theorem md(hν:∀b,NmV (ν b)):∀{w l:List Nat}{o:Option (List Nat)},ai w l=some o->(o=none->w.isPrefixOf (vl ν l)=false)/\∀l',o=some l'->vl ν l=w++vl ν l'
 |[],l,o,h=>by
  cases h;exact⟨(λz=>by cases z),λl' e=>by cases e;rfl⟩
 |a::w,[],o,h=>by
  cases h;exact⟨λ_=>rfl,λl' e=>by cases e⟩
 |a::w,n::l,o,h=>by
  rw[ai]at h
  by_cases hn:isN n=true
  ·rw[zG hn]at h;obtain⟨b,eb⟩:=ka (ν:=ν) hn;obtain⟨c,m,ec,hc⟩:=W9 (hν b)
   by_cases ha:small a=true
   ·rw[zG ha]at h
    by_cases hw:X8 (a::w) l=true
    ·rw[zG hw]at h;cases h;refine⟨λ_=>?_,λl' e=>by cases e⟩;cases hb:(a::w).isPrefixOf (vl ν (n::l))with
     |false=>rfl
     |true =>
      exfalso;have hp:=yP.mp hb;unfold X8 at hw;rw[yY,vA,yY]at hw;have iF:(a::w).takeWhile small≠a::w:=λe=>by
       have:=hw.1;rw[zI e]at this;cases this
      have ht:=J8 iF hp;rw[yd,eb,Zp (hν b).2]at ht;rcases hw.2 with⟨h1,h2⟩|h1
      ·have oN:=Pp hν h2;have e0:(vl ν l).takeWhile small=[]:=by
        cases ev:vl ν l with
        |nil=>rfl
        |cons d r=>rw[xP,oN d (by rw[ev];rfl)];rfl
       rw[e0,List.append_nil]at ht;refine Y2 (hν b) ?_;have h3:=zF h1;rw[<-ht]at h3;have e:(⟨(ν b).cps.toList.toArray⟩:Str)=ν b:=by simp
       rw[e]at h3;exact h3
      ·have h3:=zF h1;rw[<-ht,zE]at h3;have h4:=J7 (ν:=ν) l;have h5:0<(ν b).cps.toList.length:=by rw[ec];exact uF _
       lia
    ·rw[zM hw]at h;cases h
   ·rw[zM ha]at h;cases h;refine⟨λ_=>?_,λl' e=>by cases e⟩;rw[yd,eb,ec];show((a==c)&&_)=false;rw[xR.mpr λz=>ha (by rw[z];exact hc),tH]
  ·rw[zM hn]at h;have CP:isN n=false:=by cases hb:isN n with|false=>rfl|true=>exact absurd hb hn
   rw[yd,qj CP,List.singleton_append]
   by_cases han:a=n
   ·rw[zG han]at h;subst han;have ih:=md hν h;refine⟨λz=>?_,λl' e=>by rw[ih.2 l' e];rfl⟩;show((a==a)&&_)=false;rw[ih.1 z,uP]
   ·rw[zM han]at h;cases h;refine⟨λ_=>?_,λl' e=>by cases e⟩;show((a==n)&&_)=false;rw[xR.mpr han,tH]
def qnm(l:List Nat):List (Option (List Nat)) :=
 if(l.takeWhile ltr).any isN=false then[if vn (l.takeWhile ltr)=true then some (l.dropWhile ltr)else none]
 else if(l.takeWhile ltr).length=1 then[some (l.dropWhile ltr)]else[none,some (l.dropWhile ltr)]
theorem Qx(hν:∀b,NmV (ν b)):∀{l:List Nat},(∀n∈l,ltr n=true)->∀c∈vl ν l,small c=true
 |[],_,c,hc=>by cases hc
 |n::l,h,c,hc=>by
  rw[yd]at hc;rcases zK.mp hc with z|z
  ·cases hn:isN n with
   |true =>
    obtain⟨b,eb⟩:=ka (ν:=ν) hn;rw[eb]at z;exact(hν b).2 c z
   |false =>
    rw[qj hn]at z;rw[zX.mp z];have:=h n zD;unfold ltr at this;rw[hn,Bool.or_false]at this;exact this
  ·exact Qx hν (λk hk=>h k (zO _ hk)) c z
theorem Za:∀(l:List Nat),(match l.dropWhile ltr with|[]=>true|n::_=>!ltr n)=true
 |[]=>rfl
 |n::l=>by
  rw[List.dropWhile_cons];cases hn:ltr n with
  |true=>simp only[if_true];exact Za l
  |false=>simp[hn]
theorem Rw(l:List Nat):vl ν l=vl ν (l.takeWhile ltr)++vl ν (l.dropWhile ltr):=by rw[<-uu,List.takeWhile_append_dropWhile]
theorem L4(hν:∀b,NmV (ν b)){x l:List Nat}{p:Nat}(h:x.drop p=vl ν l):yt x p=vl ν (l.takeWhile ltr):=by
 unfold yt;rw[h,Rw l];exact bd (Qx hν λn hn=>yS.mp (List.all_takeWhile (p:=ltr) (l:=l)) n hn) (Pp hν (Za l))
theorem xz:∀{l:List Nat},l.any isN=false->vl ν l=l
 |[],_=>rfl
 |n::l,h=>by
  rw[List.any_cons,Bool.or_eq_false_iff]at h;rw[yd,qj h.1,xz h.2]
  rfl
abbrev QR:=Option (List (Option (Nat×List Nat)))
def ue(g:Nat->List Nat->QR):List (Option (Nat×List Nat))->QR
 |[]=>some []
 |none::os=>(ue g os).map (none :: ·)
 |some (r,l)::os=>match g r l,ue g os with
  |some a,some b=>some (a++b)
  |_,_=>none
def Vf(q:QR)(g:Nat->List Nat->QR):QR:=match q with
 |none=>none
 |some os=>ue g os
def qIf(w l:List Nat)(y:List Nat->QR)(n:QR):QR:=match ai w l with
 |none=>none
 |some none=>n
 |some (some l1)=>y l1
def Mu(q:QR):QR:=Vf q λr l=>qIf (lit ")") l (λl1=>some [some (r,l1)]) (some [none])
def El(r:Nat)(l:List Nat):QR:=some ((qnm l).map λo=>o.map λl1=>(r,l1))
def qS:Nat->Nat->List Nat->QR
 |0,_,_=>some [none]
 |_+1,0,_=>some [none]
 |f+1,r+1,l=>qIf (lit "not ") l (λl1=>qS f r l1) (qIf (lit "(if ") l (λl1=>Vf (qS f r l1) λr1 l2=>qIf (lit " then ") l2 (λl3=>Mu (qS f r1 l3)) (some [none]))
   (qIf (lit "(") l (λl1=>Vf (qS f r l1) λr1 l2=>qIf (lit " and ") l2 (λl3=>Mu (qS f r1 l3)) (qIf (lit " or ") l2 (λl3=>Mu (qS f r1 l3)) (some [none]))) (El r l)))
def Snd(ν:Bool->Str)(x:List Nat)(res:PR)(q:QR):Prop:=∀os,q=some os->(none∈os/\res=none)\/∃r l t p,some (r,l)∈os/\res=some (t,r,p)/\x.drop p=vl ν l
theorem kz{x:List Nat}{GO res:PR}{q:QR}{g:Nat->List Nat->QR}(h1:Snd ν x GO q)(hn:GO=none->res=none)(hs:∀t r1 p1 l1,GO=some (t,r1,p1)->x.drop p1=vl ν l1->Snd ν x res (g r1 l1)):Snd ν x res (Vf q g):=by
 intro os e;cases q with
 |none=>cases e
 |some AL =>
  have e':ue g AL=some os:=e;have key:∀(AL:List (Option (Nat×List Nat)))(os:List (Option (Nat×List Nat))),ue g AL=some os->(none∈AL->none∈os)/\∀r l,some (r,l)∈AL->∃EF,g r l=some EF/\∀o∈EF,o∈os:=by
   intro AL
   induction AL with
   |nil=>intro os e;exact⟨(λz=>by cases z),λr l z=>by cases z⟩
   |cons o AL ih =>
    intro os e;cases o with
    |none =>
     rw[ue]at e;cases e2:ue g AL with
     |none=>rw[e2]at e;cases e
     |some b =>
      rw[e2]at e;cases e;have:=ih b e2;refine⟨λ_=>zD,λr l hm=>?_⟩;rcases zL.mp hm with z|z
      ·cases z
      ·obtain⟨EF,h2,h3⟩:=this.2 r l z;exact⟨EF,h2,λo ho=>zO _ (h3 o ho)⟩
    |some rl =>
     obtain⟨r,l⟩:=rl;rw[ue]at e;cases e1:g r l with
     |none=>rw[e1]at e;cases e
     |some a =>
      cases e2:ue g AL with
      |none=>rw[e1,e2]at e;cases e
      |some b =>
       rw[e1,e2]at e;cases e;have:=ih b e2;refine⟨λhm=>?_,λr' l' hm=>?_⟩
       ·rcases zL.mp hm with z|z
        ·cases z
        ·exact zQ _ (this.1 z)
       ·rcases zL.mp hm with z|z
        ·cases z;exact⟨a,e1,λo ho=>yU _ ho⟩
        ·obtain⟨EF,h2,h3⟩:=this.2 r' l' z;exact⟨EF,h2,λo ho=>zQ _ (h3 o ho)⟩
  have kk:=key AL os e';rcases h1 AL rfl with⟨hm,hr⟩|⟨r,l,t,p,hm,hr,hx⟩
  ·exact .inl ⟨kk.1 hm,hn hr⟩
  ·obtain⟨EF,h2,h3⟩:=kk.2 r l hm;rcases hs t r p l hr hx EF h2 with⟨hm2,DC⟩|⟨r',l',t',p',hm2,DC,kP⟩
   ·exact .inl ⟨h3 _ hm2,DC⟩
   ·exact .inr ⟨r',l',t',p',h3 _ hm2,DC,kP⟩
theorem qe(hν:∀b,NmV (ν b)){x w l:List Nat}{p:Nat}{res:PR}{y:List Nat->QR}{n:QR}(hx:x.drop p=vl ν l)(hy:nx x p w=true->∀l1,x.drop (p+w.length)=vl ν l1->Snd ν x res (y l1))(hn:nx x p w=false->Snd ν x res n):Snd ν x res (qIf w l y n):=by
 intro os e;unfold qIf at e;cases h:ai w l with
 |none=>rw[h]at e;cases e
 |some o =>
  have hq:=md hν h;rw[h]at e;cases o with
  |none=>exact hn (by unfold nx;rw[hx];exact hq.1 rfl) os e
  |some l1 =>
   have h2:=hq.2 l1 rfl;rw[h2]at hx;exact hy (xk hx) l1 (yf hx) os e
theorem sh{x:List Nat}{res:PR}(h:res=none):Snd ν x res (some [none]):=λos e=>by cases e;exact .inl ⟨zX.mpr rfl,h⟩
theorem ax(hν:∀b,NmV (ν b)){x:List Nat}{res:PR}{q:QR}{o:Op2}{t1:Say}(h:Snd ν x res q):Snd ν x (ql x o t1 res) (Mu q):=by
 refine kz h (λe=>by rw[e];rfl) λt r p l e hx=>?_;rw[e];unfold ql;dsimp only;refine qe hν hx (λhb l1 h1=>?_) λhb=>?_
 ·rw[zG hb];intro os e;cases e;exact .inr ⟨r,l1,_,_,zX.mpr rfl,rfl,by rw[rq]at h1;exact h1⟩
 ·rw[hb,zM (by decide)];exact sh rfl
theorem ki(hν:∀b,NmV (ν b)){x:List Nat}:∀(f r:Nat)(l:List Nat)(p:Nat),x.drop p=vl ν l->Snd ν x (yz x f r p) (qS f r l)
 |0,r,l,p,_=>sh (by simp[yz])
 |f+1,0,l,p,_=>sh (by simp[yz])
 |f+1,r+1,l,p,hx=>by
  rw[yz,qS];refine qe hν hx (λhb l1 h1=>?_) λhb=>?_
  ·rw[zG hb];rw[show(lit "not ").length=4 by rw[vv];rfl]at h1;intro os e;rcases ki hν f r l1 (p+4) h1 os e with⟨hm,hr⟩|⟨r',l',t',p',hm,hr,kP⟩
   ·exact .inl ⟨hm,by rw[hr];rfl⟩
   ·exact .inr ⟨r',l',_,p',hm,by rw[hr];rfl,kP⟩
  rw[hb,zM (by decide)];refine qe hν hx (λhb l1 h1=>?_) λhb=>?_
  ·rw[zG hb];rw[show(lit "(if ").length=4 by rw[tw];rfl]at h1;unfold pIf;refine kz (ki hν f r l1 (p+4) h1) (λe=>by rw[e]) λt1 r1 p1 l2 e kP=>?_;rw[e];dsimp only;refine qe hν kP (λhb l3 h3=>?_) λhb=>?_
   ·rw[zG hb];rw[show(lit " then ").length=6 by rw[r8];rfl]at h3;exact ax hν (ki hν f r1 l3 (p1+6) h3)
   ·rw[hb,zM (by decide)];exact sh rfl
  rw[hb,zM (by decide)];refine qe hν hx (λhb l1 h1=>?_) λhb=>?_
  ·rw[zG hb];rw[show(lit "(").length=1 by rw[wl];rfl]at h1;unfold se;refine kz (ki hν f r l1 (p+1) h1) (λe=>by rw[e]) λt1 r1 p1 l2 e kP=>?_;rw[e];dsimp only;refine qe hν kP (λhb l3 h3=>?_) λhb=>?_
   ·rw[zG hb];rw[show(lit " and ").length=5 by rw[uw];rfl]at h3;exact ax hν (ki hν f r1 l3 (p1+5) h3)
   rw[hb,zM (by decide)];refine qe hν kP (λhb l3 h3=>?_) λhb=>?_
   ·rw[zG hb];rw[show(lit " or ").length=4 by rw[rz];rfl]at h3;exact ax hν (ki hν f r1 l3 (p1+4) h3)
   ·rw[hb,zM (by decide)];exact sh rfl
  rw[hb,zM (by decide)];intro os e;cases e;have hnm:=L4 hν hx;have jJ:vn (yt x p)=true->x.drop (p+(yt x p).length)=vl ν (l.dropWhile ltr):=λ_=>by
   rw[hnm];rw[Rw l]at hx;exact yf hx
  have cJ:(none∈qnm l/\vn (yt x p)=false)\/(some (l.dropWhile ltr)∈qnm l/\vn (yt x p)=true):=by
   unfold qnm;split
   ·rename_i h1;rw[hnm,xz h1];cases hok:vn (l.takeWhile ltr)with
    |true=>exact .inr ⟨by simp,rfl⟩
    |false=>exact .inl ⟨by simp,rfl⟩
   ·rename_i h1;split
    ·rename_i h2;refine .inr ⟨zX.mpr rfl,?_⟩;obtain⟨n,en⟩:∃n,l.takeWhile ltr=[n]:=List.length_eq_one_iff.mp h2;rw[en]at h1;have hn:isN n=true:=by
      cases hb:isN n with
      |true=>rfl
      |false=>exact absurd (by rw[List.any_cons,hb];rfl) h1
     obtain⟨b,eb⟩:=ka (ν:=ν) hn;rw[hnm,en,yd,eb,ll,List.append_nil];exact(hν b).1
    ·cases hok:vn (yt x p)with
     |true=>exact .inr ⟨by simp,rfl⟩
     |false=>exact .inl ⟨by simp,rfl⟩
  unfold cq;rcases cJ with⟨hm,hk⟩|⟨hm,hk⟩
  ·rw[hk,zM (by decide)];exact .inl ⟨yW.mpr ⟨none,hm,rfl⟩,rfl⟩
  ·rw[zG hk];exact .inr ⟨r,_,_,_,yW.mpr ⟨_,hm,rfl⟩,rfl,jJ hk⟩
def Oa(l:List Nat):Bool:=match qS 41 40 l with
 |none=>false
 |some os=>os.all λo=>match o with
  |none=>true
  |some (_,l1)=>!decide (l1=[])
theorem Ga(hν:∀b,NmV (ν b)){l:List Nat}(h:l≠[]):vl ν l≠[]:=by
 cases l with
 |nil=>exact absurd rfl h
 |cons n l =>
  rw[yd];cases hn:isN n with
  |true =>
   obtain⟨b,eb⟩:=ka (ν:=ν) hn;obtain⟨c,m,ec,_⟩:=W9 (hν b);rw[eb,ec];simp
  |false=>rw[qj hn];simp
theorem kj(hν:∀b,NmV (ν b)){l:List Nat}(h:Oa l=true):sm (vl ν l)=none:=by
 have hs:=ki hν (x:=vl ν l) 41 40 l 0 (wL);unfold Oa at h;cases e:qS 41 40 l with
 |none=>rw[e]at h;cases h
 |some os =>
  rw[e]at h;have ha:=yS.mp h;unfold sm;rcases hs os e with⟨_,hr⟩|⟨r,l1,t,p,hm,hr,hx⟩
  ·rw[hr]
  ·rw[hr];dsimp only;have h1:=ha _ hm;have h2:l1≠[]:=λz=>by
    rw[z]at h1;exact absurd (show(!decide (([]:List Nat)=[]))=true from h1) (by decide)
   have h3:=Ga hν h2;rw[zG];refine Nat.lt_of_not_le λET=>h3 ?_;rw[<-hx];exact List.drop_eq_nil_of_le ET
end
structure Cc(K:W.Frag)(Cj Cn Co Cr Ce Cb:Addr):Prop where
 x:XCls K Cn
 m:W.mroIn K Cn (.ref Cj)=some true
 n:W.kitOne K (.ref Cn) (.ref Cn)=some true
 o:W.kitOne K (.ref Cn) (.ref Co)=some false
 r:W.kitOne K (.ref Cn) (.ref Cr)=some false
 e:W.kitOne K (.ref Cn) (.ref Ce)=some false
 b:W.kitOne K (.ref Cn) (.ref Cb)=some false
 v:W.kitOne K (.ref Cn) (.type "ValueError")=some true
theorem uv{H:Hp}{p:Addr}{ds:List Bool}(h:H p=some (.lst (ds.map V.bl))):Has K H (.ref p) (.list (ds.map PyData.bool)):=by
 unfold Has;exact⟨p,_,rfl,SqL.of h,ft K H ds⟩
theorem yq:SeqAt.shaped (.list ([true,false,false,false,false,true].map PyData.bool))=true:=by decide +kernel
def N6(K:W.Frag)(H:Hp)(v:V)(b:Bool):Prop:=N3 K H v\/∃x:Str,v = .str x/\xf x/\(b=false->sm x.cps.toList=none)/\(b=true->(∀l∈Txt.split x (Str.ofString "\n"),xf l)/\(Txt.split x (Str.ofString "\n")).length<=1000/\sf (Txt.split x (Str.ofString "\n"))=none)
def Q9(K:W.Frag):Sp:=λvs H Q _=>∃(v:V)(b:Bool),vs=[v,.bl b]/\N6 K H v b/\∀H',Same H H'->Q (.bl true) H'
theorem sc_refused:zm ["_law_text","_law_whole","error","_law_kinds"] ["_law_text","_law_whole"] (zy (top 45)):=⟨rfl,rfl,rfl,by decide +kernel,rfl,by decide +kernel,by decide +kernel⟩
theorem Xk{Cj Cn Co Cr Ce Cb:Addr}(D:Def K mg "_law_refused" (top 45) ["_law_text","_law_whole"])(jO:yu P w K mg base 133 "read" ["text"] (a9 K Cn Co Cr Ce))(bD:yu P w K mg base 86 "read_saying" ["text"] (mh K Cn))(cP:XCls K Cj)(kn:Cc K Cj Cn Co Cr Ce Cb)
  (bS:mg "JudgeError"=some (.ref Cj)) (aM:mg "OutOfBounds"=some (.ref Co)) (bQ:mg "BadRow"=some (.ref Cr)) (dY:mg "Even"=some (.ref Ce)) (aF:mg "NoText"=some (.ref Cn)) (gX:mg "Barred"=some (.ref Cb)) (bR:mg "ValueError"=none) (aA:mg "isinstance"=none):zh P w K mg base 134 "_law_refused" ["_law_text","_law_whole"] (Q9 K):=by
 refine D.callee sc_refused (λvs H Q E h=>?_) λf cdv A outer s H vs Q E hr h=>?_
 ·obtain⟨v,b,rfl,_⟩:=h
  rfl
 have nd:=sc_refused.nd;obtain⟨v,b,rfl,hR,q⟩:=h;refine⟨[some v,some (.bl b),none,none],_,rfl,(zz (Ej (F6 (xw (z8 1)) (Vw (i:=2) jO hr (by lia) (z9 (z8 0) z4) bS cP (λ_=>(zz (zn 3 nd (zd (z9 (zq sq rfl aA zo (z9 (z8 2) (z9 (wm aF) z4))) (z9 (zq sq rfl aA zo (z9 (z8 2) (z9 (wm aM) z4))) (z9 (zq sq rfl aA zo (z9 (z8 2) (z9 (wm bQ) z4))) z4)))))
  (zz (zn 3 nd (z6 z5 (z8 3) (zd (z9 (zq sq rfl aA zo (z9 (z8 2) (z9 (wm dY) z4))) (z9 (zq sq rfl aA zo (z9 (z8 2) (z9 (wm gX) z4))) (z9 (zq sq rfl aA zo (z9 (z8 2) (z9 (yc (v:=.ty "ValueError") rfl bR qg rfl) z4))) z4))))))
  (zx (zk (va (wb hr.units) (z8 3) (zd (z9 yj (z9 yj (z9 yj (z9 yj (z9 yj (z9 yj z4))))))) (ze _))))))) rfl nd) (Vw (i:=2) bD hr (by lia) (z9 (z8 0) z4) bS cP (λ_=>(zz (zn 3 nd (zd (z9 (zq sq rfl aA zo (z9 (z8 2) (z9 (wm aF) z4))) (z9 (zq sq rfl aA zo (z9 (z8 2) (z9 (wm aM) z4))) (z9 (zq sq rfl aA zo (z9 (z8 2) (z9 (wm bQ) z4))) z4)))))
  (zz (zn 3 nd (z6 z5 (z8 3) (zd (z9 (zq sq rfl aA zo (z9 (z8 2) (z9 (wm dY) z4))) (z9 (zq sq rfl aA zo (z9 (z8 2) (z9 (wm gX) z4))) (z9 (zq sq rfl aA zo (z9 (z8 2) (z9 (yc (v:=.ty "ValueError") rfl bR qg rfl) z4))) z4))))))
  (zx (zk (va (wb hr.units) (z8 3) (zd (z9 yj (z9 yj (z9 yj (z9 yj (z9 yj (z9 yj z4))))))) (ze _))))))) rfl nd)))
  (zx (zk yj))),?_⟩
 have dpA:∀{H2:Hp},((none:Option Addr)=none\/∃d fs,(none:Option Addr)=some d/\H2 d=some (.xd fs)):=.inl rfl;walk_at"rp";cases b with
 |true =>
  walk_at"rp";refine⟨v,rfl,hR.imp (λh=>⟨h,λa H2 s2 ea=>?_⟩) λ⟨x,e,hx,_,h2⟩=>⟨x,e,hx,(h2 rfl).1,(h2 rfl).2.1,λ_ a H2 s2 ea=>?_,λts ks e=>by rw[(h2 rfl).2.2]at e;cases e⟩⟩
  ·have dp:=dpA (H2:=H2);refine⟨a,Cn,rfl,ea,kn.x,kn.m,?_⟩;simp only[tW,tV];walk_at"rp";refine⟨a,Cn,none,false,_,_,true,rfl,ea,dp,kn.x,rfl,kn.n,a,Cn,none,false,_,_,false,rfl,ea,dp,kn.x,rfl,kn.o,a,Cn,none,false,_,_,false,rfl,ea,dp,kn.x,rfl,kn.r,?_⟩;walk_at"rp";refine⟨zt (by simp),λl3 H3 n3 s3 e3=>?_⟩;have rC:=s3 _ _ ea;have rD:(none:Option Addr)=none\/∃d fs,(none:Option Addr)=some d/\H3 d=some (.xd fs):=.inl rfl;walk_at"rp";refine⟨a,Cn,none,false,_,_,false,rfl,rC,rD,kn.x,rfl,kn.e,a,Cn,none,false,_,_,false,rfl,rC,rD,kn.x,rfl,kn.b,a,Cn,none,false,_,_,true,rfl,rC,rD,kn.x,rfl,kn.v,?_⟩;walk_at"rp";refine⟨zt (by simp),λl4 H4 n4 s4 e4=>?_⟩;walk_at"rp";refine .inl ⟨_,_,s4 _ _ e3,e4,zt (by simp),λl5 H5 n5 s5 e5=>⟨zt (by simp),λl6 H6 n6 s6 e6=>?_⟩⟩;walk_at"rp";refine⟨_,_,uv (ds:=[true,false,false,false,false,true]) (s6 _ _ e5),uv (ds:=[true,false,false,false,false,true]) e6,yq,yq,?_⟩;rw[rn yq];exact q H6 (s2.trans (s3.trans (s4.trans (s5.trans s6))))
  ·have dp:=dpA (H2:=H2);refine⟨a,Cn,rfl,ea,kn.x,kn.m,?_⟩;simp only[tW,tV];walk_at"rp";refine⟨a,Cn,none,false,_,_,true,rfl,ea,dp,kn.x,rfl,kn.n,a,Cn,none,false,_,_,false,rfl,ea,dp,kn.x,rfl,kn.o,a,Cn,none,false,_,_,false,rfl,ea,dp,kn.x,rfl,kn.r,?_⟩;walk_at"rp";refine⟨zt (by simp),λl3 H3 n3 s3 e3=>?_⟩;have rC:=s3 _ _ ea;have rD:(none:Option Addr)=none\/∃d fs,(none:Option Addr)=some d/\H3 d=some (.xd fs):=.inl rfl;walk_at"rp";refine⟨a,Cn,none,false,_,_,false,rfl,rC,rD,kn.x,rfl,kn.e,a,Cn,none,false,_,_,false,rfl,rC,rD,kn.x,rfl,kn.b,a,Cn,none,false,_,_,true,rfl,rC,rD,kn.x,rfl,kn.v,?_⟩;walk_at"rp";refine⟨zt (by simp),λl4 H4 n4 s4 e4=>?_⟩;walk_at"rp";refine .inl ⟨_,_,s4 _ _ e3,e4,zt (by simp),λl5 H5 n5 s5 e5=>⟨zt (by simp),λl6 H6 n6 s6 e6=>?_⟩⟩;walk_at"rp";refine⟨_,_,uv (ds:=[true,false,false,false,false,true]) (s6 _ _ e5),uv (ds:=[true,false,false,false,false,true]) e6,yq,yq,?_⟩;rw[rn yq];exact q H6 (s2.trans (s3.trans (s4.trans (s5.trans s6))))
 |false =>
  walk_at"rp";refine⟨v,rfl,hR.imp (λh=>⟨h,λa H2 s2 ea=>?_⟩) λ⟨x,e,hx,h1,_⟩=>⟨x,e,hx,λ_ a H2 s2 ea=>?_,λt e=>by rw[h1 rfl]at e;cases e⟩⟩
  ·have dp:=dpA (H2:=H2);refine⟨a,Cn,rfl,ea,kn.x,kn.m,?_⟩;simp only[tW,tV];walk_at"rp";refine⟨a,Cn,none,false,_,_,true,rfl,ea,dp,kn.x,rfl,kn.n,a,Cn,none,false,_,_,false,rfl,ea,dp,kn.x,rfl,kn.o,a,Cn,none,false,_,_,false,rfl,ea,dp,kn.x,rfl,kn.r,?_⟩;walk_at"rp";refine⟨zt (by simp),λl3 H3 n3 s3 e3=>?_⟩;have rC:=s3 _ _ ea;have rD:(none:Option Addr)=none\/∃d fs,(none:Option Addr)=some d/\H3 d=some (.xd fs):=.inl rfl;walk_at"rp";refine⟨a,Cn,none,false,_,_,false,rfl,rC,rD,kn.x,rfl,kn.e,a,Cn,none,false,_,_,false,rfl,rC,rD,kn.x,rfl,kn.b,a,Cn,none,false,_,_,true,rfl,rC,rD,kn.x,rfl,kn.v,?_⟩;walk_at"rp";refine⟨zt (by simp),λl4 H4 n4 s4 e4=>?_⟩;walk_at"rp";refine .inl ⟨_,_,s4 _ _ e3,e4,zt (by simp),λl5 H5 n5 s5 e5=>⟨zt (by simp),λl6 H6 n6 s6 e6=>?_⟩⟩;walk_at"rp";refine⟨_,_,uv (ds:=[true,false,false,false,false,true]) (s6 _ _ e5),uv (ds:=[true,false,false,false,false,true]) e6,yq,yq,?_⟩;rw[rn yq];exact q H6 (s2.trans (s3.trans (s4.trans (s5.trans s6))))
  ·have dp:=dpA (H2:=H2);refine⟨a,Cn,rfl,ea,kn.x,kn.m,?_⟩;simp only[tW,tV];walk_at"rp";refine⟨a,Cn,none,false,_,_,true,rfl,ea,dp,kn.x,rfl,kn.n,a,Cn,none,false,_,_,false,rfl,ea,dp,kn.x,rfl,kn.o,a,Cn,none,false,_,_,false,rfl,ea,dp,kn.x,rfl,kn.r,?_⟩;walk_at"rp";refine⟨zt (by simp),λl3 H3 n3 s3 e3=>?_⟩;have rC:=s3 _ _ ea;have rD:(none:Option Addr)=none\/∃d fs,(none:Option Addr)=some d/\H3 d=some (.xd fs):=.inl rfl;walk_at"rp";refine⟨a,Cn,none,false,_,_,false,rfl,rC,rD,kn.x,rfl,kn.e,a,Cn,none,false,_,_,false,rfl,rC,rD,kn.x,rfl,kn.b,a,Cn,none,false,_,_,true,rfl,rC,rD,kn.x,rfl,kn.v,?_⟩;walk_at"rp";refine⟨zt (by simp),λl4 H4 n4 s4 e4=>?_⟩;walk_at"rp";refine .inl ⟨_,_,s4 _ _ e3,e4,zt (by simp),λl5 H5 n5 s5 e5=>⟨zt (by simp),λl6 H6 n6 s6 e6=>?_⟩⟩;walk_at"rp";refine⟨_,_,uv (ds:=[true,false,false,false,false,true]) (s6 _ _ e5),uv (ds:=[true,false,false,false,false,true]) e6,yq,yq,?_⟩;rw[rn yq];exact q H6 (s2.trans (s3.trans (s4.trans (s5.trans s6))))
abbrev Tk:=Sum String Nat
theorem szt{n:Nat}(h:n<=16000000):n<=sizeLine:=by rw[yZ];lia
def blankT:List (List Tk):=[[.inl "(",.inr 0,.inl "  and ",.inr 1,.inl ")"],[.inl "(",.inr 0,.inl " and  ",.inr 1,.inl ")"],[.inl "( ",.inr 0,.inl " and ",.inr 1,.inl ")"],[.inl "(",.inr 0,.inl " and ",.inr 1,.inl " )"],[.inl " (",.inr 0,.inl " and ",.inr 1,.inl ")"],[.inl "(",.inr 0,.inl " and ",.inr 1,.inl ") "],[.inr 0,.inl " and ",.inr 1],[.inl "(",.inr 0,.inl " and ",.inr 1],[.inr 0,.inl " and ",.inr 1,.inl ")"],[.inl "((",.inr 0,.inl " and ",.inr 1,.inl ")"],[.inl "(",.inr 0,.inl " and ",.inr 1,.inl "))"],[.inl "(",.inr 0,.inl " And ",.inr 1,.inl ")"],[.inl "(",.inr 0,.inl " ",.inr 1,.inl ")"],[.inl "(",.inr 0,.inl " and)"],[.inl "(and ",.inr 1,.inl ")"],[.inl "(",.inr 0,.inl " and and ",.inr 1,.inl ")"],[.inl "(",.inr 0,.inl " and ",.inr 1,.inl " and ",.inr 0,.inl ")"],[.inl "(",.inr 0,.inl " & ",.inr 1,.inl ")"],[.inl "[",.inr 0,.inl " and ",.inr 1,.inl "]"],[.inl "(",.inr 0,.inl "and ",.inr 1,.inl ")"],[.inl "(",.inr 0,.inl " then ",.inr 1,.inl ")"],[.inl "(",.inr 0,.inl "\nand ",.inr 1,.inl ")"],[.inl "((",.inr 0,.inl " and ",.inr 1,.inl "))"]]
def ifT:List (List Tk):=[[.inl "(if ",.inr 0,.inl " ",.inr 2,.inl ")"],[.inl "(if ",.inr 0,.inl " then",.inr 2,.inl ")"],[.inl "if ",.inr 0,.inl " then ",.inr 2],[.inl "(if ",.inr 0,.inl " then ",.inr 2],[.inl "(",.inr 0,.inl " if ",.inr 2,.inl ")"],[.inl "(if  ",.inr 0,.inl " then ",.inr 2,.inl ")"],[.inl "(if ",.inr 0,.inl " and ",.inr 2,.inl ")"],[.inl "(if ",.inr 0,.inl " then ",.inr 2,.inl " or ",.inr 1,.inl ")"],[.inl "(if ",.inr 0,.inl " then not)"],[.inl "(if then ",.inr 2,.inl ")"],[.inl "(if ",.inr 0,.inl " or ",.inr 2,.inl ")"],[.inl "(If ",.inr 0,.inl " then ",.inr 2,.inl ")"],[.inl "(if",.inr 0,.inl " then ",.inr 2,.inl ")"]]
def nameT:List (List Tk):=[[.inl "not ",.inl "not"],[.inl "not ",.inl "and"],[.inl "not ",.inl "or"],[.inl "not ",.inl "if"],[.inl "not ",.inl "then"],[.inl "not ",.inl "say"],[.inl "not ",.inl "judge"],[.inl "not ",.inl "abcdefg"],[.inl "not ",.inl "A"],[.inl "not ",.inl "a1"],[.inl "not ",.inl "a_b"],[.inl "not ",.inl "1"],[.inl "not ",.inl ""],[.inl "not ",.inl "x-"],[.inl "not ",.inl "a.b"],[.inl "not  ",.inr 0],[.inl "not",.inl " not"],[.inl "Not ",.inr 0],[.inl "not ",.inr 0,.inl " "],[.inl " not ",.inr 0],[.inl "not ",.inr 0,.inl " ",.inr 0],[.inl "not (",.inr 0,.inl ")"],[.inl "not ",.inr 0,.inl ")"],[.inl "not\n",.inr 0]]
def lineT:List (List Tk):=[[.inr 3,.inl "\n",.inr 4],[.inr 5],[.inl ""],[.inr 6,.inl "\n"],[.inl "\n",.inr 6],[.inr 3,.inl "\n\n",.inr 4,.inl "\n",.inr 5],[.inr 3,.inl "\n",.inr 5,.inl "\n",.inr 4],[.inr 5,.inl "\n",.inr 3,.inl "\n",.inr 4],[.inr 6,.inl " "],[.inl " ",.inr 6],[.inr 3,.inl "\n",.inr 4,.inl "\n",.inr 5,.inl "y"],[.inr 3,.inl "\n",.inr 4,.inl "\njudge y"],[.inr 3,.inl "\n",.inr 4,.inl "\njudge "],[.inr 3,.inl "\n",.inr 4,.inl "\njudge yx"],[.inr 3,.inl "\n",.inr 4,.inl "\njudge Yn"],[.inr 3,.inl "\n",.inr 4,.inl "\njudge y n"],[.inr 3,.inl "\n",.inr 4,.inl "\njudge  yn"],[.inr 3,.inl "\n",.inr 4,.inl "\nJudge yn"],[.inr 3,.inl "\nsays not ",.inr 1,.inl "\n",.inr 5],[.inr 3,.inl "\nnot ",.inr 1,.inl "\n",.inr 5],[.inl "say  ",.inr 0,.inl "\n",.inr 4,.inl "\n",.inr 5],[.inl "say\n",.inr 4,.inl "\n",.inr 5],[.inr 3,.inl ", ",.inr 4,.inl "\n",.inr 5],[.inr 3,.inl "\n",.inr 4,.inl "\n",.inr 5,.inl "\n\n",.inr 5],[.inr 3,.inl "\n",.inr 4,.inl "\n",.inr 5,.inl "\n",.inr 5,.inl "n\n",.inr 5],[.inl "say (",.inr 0,.inl " and)\n",.inr 4,.inl "\n",.inr 5],[.inl "say ",.inr 7,.inr 0,.inl "\n",.inr 4,.inl "\n",.inr 5]]
theorem Wn:(Str.ofString "").length=0:=by decide +kernel
theorem Wo:(Str.ofString "\n").length=1:=by decide +kernel
theorem Wp:(Str.ofString "\n\n").length=2:=by decide +kernel
theorem Wq:(Str.ofString "\nJudge yn").length=9:=by decide +kernel
theorem Wr:(Str.ofString "\nand ").length=5:=by decide +kernel
theorem Ws:(Str.ofString "\njudge ").length=7:=by decide +kernel
theorem Wt:(Str.ofString "\njudge  yn").length=10:=by decide +kernel
theorem Wu:(Str.ofString "\njudge Yn").length=9:=by decide +kernel
theorem Wv:(Str.ofString "\njudge y").length=8:=by decide +kernel
theorem Ww:(Str.ofString "\njudge y n").length=10:=by decide +kernel
theorem ge:(Str.ofString "\njudge yx").length=9:=by decide +kernel
theorem gf:(Str.ofString "\nnot ").length=5:=by decide +kernel
theorem gg:(Str.ofString "\nsays not ").length=10:=by decide +kernel
theorem gh:(Str.ofString " ").length=1:=by decide +kernel
theorem gj:(Str.ofString "  and ").length=6:=by decide +kernel
theorem gk:(Str.ofString " & ").length=3:=by decide +kernel
theorem gl:(Str.ofString " (").length=2:=by decide +kernel
theorem gm:(Str.ofString " )").length=2:=by decide +kernel
theorem gn:(Str.ofString " And ").length=5:=by decide +kernel
theorem gp:(Str.ofString " and ").length=5:=by decide +kernel
theorem gq:(Str.ofString " and  ").length=6:=by decide +kernel
theorem gr:(Str.ofString " and and ").length=9:=by decide +kernel
theorem gu:(Str.ofString " and)").length=5:=by decide +kernel
theorem gw:(Str.ofString " and)\n").length=6:=by decide +kernel
theorem gx:(Str.ofString " if ").length=4:=by decide +kernel
theorem gy:(Str.ofString " not").length=4:=by decide +kernel
theorem g0:(Str.ofString " not ").length=5:=by decide +kernel
theorem g6:(Str.ofString " or ").length=4:=by decide +kernel
theorem g9:(Str.ofString " then").length=5:=by decide +kernel
theorem ia:(Str.ofString " then ").length=6:=by decide +kernel
theorem ib:(Str.ofString " then not)").length=10:=by decide +kernel
theorem ie:(Str.ofString "(").length=1:=by decide +kernel
theorem ig:(Str.ofString "( ").length=2:=by decide +kernel
theorem ij:(Str.ofString "((").length=2:=by decide +kernel
theorem ik:(Str.ofString "(If ").length=4:=by decide +kernel
theorem il:(Str.ofString "(and ").length=5:=by decide +kernel
theorem im:(Str.ofString "(if").length=3:=by decide +kernel
theorem io:(Str.ofString "(if ").length=4:=by decide +kernel
theorem ip:(Str.ofString "(if  ").length=5:=by decide +kernel
theorem iq:(Str.ofString "(if then ").length=9:=by decide +kernel
theorem ir:(Str.ofString ")").length=1:=by decide +kernel
theorem iu:(Str.ofString ") ").length=2:=by decide +kernel
theorem iw:(Str.ofString "))").length=2:=by decide +kernel
theorem iz:(Str.ofString ", ").length=2:=by decide +kernel
theorem i0:(Str.ofString "1").length=1:=by decide +kernel
theorem i3:(Str.ofString "A").length=1:=by decide +kernel
theorem i4:(Str.ofString "Not ").length=4:=by decide +kernel
theorem i5:(Str.ofString "[").length=1:=by decide +kernel
theorem i6:(Str.ofString "]").length=1:=by decide +kernel
theorem i7:(Str.ofString "a.b").length=3:=by decide +kernel
theorem i8:(Str.ofString "a1").length=2:=by decide +kernel
theorem i9:(Str.ofString "a_b").length=3:=by decide +kernel
theorem jb:(Str.ofString "abcdefg").length=7:=by decide +kernel
theorem jc:(Str.ofString "and").length=3:=by decide +kernel
theorem jd:(Str.ofString "and ").length=4:=by decide +kernel
theorem je:(Str.ofString "if").length=2:=by decide +kernel
theorem jf:(Str.ofString "if ").length=3:=by decide +kernel
theorem jg:(Str.ofString "judge").length=5:=by decide +kernel
theorem jh:(Str.ofString "judge yn").length=8:=by decide +kernel
theorem ji:(Str.ofString "letter").length=6:=by decide +kernel
theorem jj:(Str.ofString "n\n").length=2:=by decide +kernel
theorem jk:(Str.ofString "not").length=3:=by decide +kernel
theorem jm:(Str.ofString "not\n").length=4:=by decide +kernel
theorem jn:(Str.ofString "not ").length=4:=by decide +kernel
theorem jo:(Str.ofString "not  ").length=5:=by decide +kernel
theorem jq:(Str.ofString "not (").length=5:=by decide +kernel
theorem jr:(Str.ofString "or").length=2:=by decide +kernel
theorem js:(Str.ofString "say").length=3:=by decide +kernel
theorem jt:(Str.ofString "say\n").length=4:=by decide +kernel
theorem ju:(Str.ofString "say ").length=4:=by decide +kernel
theorem jw:(Str.ofString "say  ").length=5:=by decide +kernel
theorem jx:(Str.ofString "say (").length=5:=by decide +kernel
theorem jy:(Str.ofString "say not ").length=8:=by decide +kernel
theorem jz:(Str.ofString "then").length=4:=by decide +kernel
theorem j4:(Str.ofString "x-").length=2:=by decide +kernel
theorem j5:(Str.ofString "y").length=1:=by decide +kernel
def tkS(ρ:Nat->Str):Tk->Str
 | .inl s=>Str.ofString s
 | .inr i=>ρ i
def tkL(sy:Nat->List Nat):Tk->List Nat
 | .inl s=>lit s
 | .inr i=>sy i
def qm(ρ:Nat->Str):List Tk->Str
 |[]=>Str.ofString ""
 |t::ts=>ts.foldl (λa u=>a++tkS ρ u) (tkS ρ t)
def fc(sy:Nat->List Nat)(ts:List Tk):List Nat:=ts.flatMap (tkL sy)
def T9(ts:List Tk):Bool:=ts.all λt=>match t with
 | .inl s=>!(lit s).any isN
 | .inr _=>true
def sy0:Nat->List Nat
 |0=>[2000000]
 |1=>[2000001]
 |2=>lit "("++([2000001]++(lit " or "++([2000000]++lit ")")))
 |3=>lit "say "++[2000000]
 |4=>lit "say not "++[2000001]
 |5=>lit "judge yn"
 |6=>lit "say "++([2000000]++([10]++(lit "say not "++([2000001]++([10]++lit "judge yn")))))
 |7=>(List.replicate 40 (lit "not ")).flatten
 |_=>[]
def We:Nat->List Nat->List Nat
 |0,l=>lit "not "++l
 |1,l=>lit "("++(l++(lit " or "++([2000000]++lit ")")))
 |2,l=>lit "("++([2000000]++(lit " and "++(l++lit ")")))
 |3,l=>lit "(if "++(l++(lit " then "++([2000000]++lit ")")))
 |_,l=>l
def allBad:List (List Nat):=(blankT++(ifT++nameT)).map (fc sy0)
def okL(m:List Nat):Bool:=decide (m.length<=300)&&m.all λn=>decide (n<4000000)
def Gj:Bool:=allBad.all λl=>(List.range 5).all λc=>okL (We c l)&&Oa (We c l)
theorem Ld:Gj=true:=by decide +kernel
theorem bc:((blankT++(ifT++(nameT++lineT))).all T9)=true:=by decide +kernel
section
variable {ν:Bool->Str}{ρ:Nat->Str}{sy:Nat->List Nat}
theorem Ro(h:∀i,(ρ i).cps.toList=vl ν (sy i)){t:Tk}(ho:(match t with|.inl s=>!(lit s).any isN|.inr _=>true)=true):(tkS ρ t).cps.toList=vl ν (tkL sy t):=by
 cases t with
 |inl s =>
  have h1:(lit s).any isN=false:=by
   cases hb:(lit s).any isN with
   |false=>rfl
   |true =>
    have sV:(!(lit s).any isN)=true:=ho;rw[hb]at sV;cases sV
  exact(xz h1).symm
 |inr i=>exact h i
theorem Ym(h:∀i,(ρ i).cps.toList=vl ν (sy i)):∀{ts:List Tk}{a:Str}{l:List Nat},T9 ts=true->a.cps.toList=vl ν l->(ts.foldl (λa u=>a++tkS ρ u) a).cps.toList=vl ν (l++fc sy ts)
 |[],a,l,_,ha=>by rw[show fc sy []=[]from rfl,List.append_nil];exact ha
 |t::ts,a,l,ho,ha=>by
  unfold T9 at ho;rw[List.all_cons,yY]at ho;rw[List.foldl_cons,Ym h (l:=l++tkL sy t) ho.2 (by rw[yX,zP,ha,Ro h ho.1,uu])];rw[show fc sy (t::ts)=tkL sy t++fc sy ts from List.flatMap_cons,zJ]
theorem mi(h:∀i,(ρ i).cps.toList=vl ν (sy i)){ts:List Tk}(ho:T9 ts=true):(qm ρ ts).cps.toList=vl ν (fc sy ts):=by
 cases ts with
 |nil=>exact(show(Str.ofString "").cps.toList=[]by decide +kernel)
 |cons t ts =>
  unfold T9 at ho;rw[List.all_cons,yY]at ho;rw[qm,Ym h ho.2 (Ro h ho.1)]
  rfl
end
local macro_rules|`(tactic| walk_at "sz")=>`(tactic| (refine szt ?_;(try simp only[yo,Wn,Wo,Wp,Wq,Wr,Ws,Wt,Wu,Wv,Ww,ge,gf,gg,gh,gj,gk,gl,gm,gn,gp,gq,gr,gu,gw,gx,gy,g0,g6,g9,ia,ib,ie,ig,ij,ik,il,im,io,ip,iq,ir,iu,iw,iz,i0,i3,i4,i5,i6,i7,i8,i9,jb,jc,jd,je,jf,jg,jh,ji,jj,jk,jm,jn,jo,jq,jr,js,jt,ju,jw,jx,jy,jz,j4,j5]);lia))
def nu(x y:Str):Bool->Str:=λb=>if b=true then y else x
def Os(x y:Str):Str:=Str.ofString "("++y++Str.ofString " or "++x++Str.ofString ")"
def rho(x y:Str):Nat->Str
 |0=>x
 |1=>y
 |2=>Os x y
 |3=>Str.ofString "say "++x
 |4=>Str.ofString "say not "++y
 |5=>Str.ofString "judge yn"
 |6=>Str.ofString "say "++x++Str.ofString "\n"++(Str.ofString "say not "++y)++Str.ofString "\n"++Str.ofString "judge yn"
 |7=>Txt.mul (Str.ofString "not ") 40
 |_=>Str.ofString ""
theorem nc{x y:Str}(hx:NmV x)(hy:NmV y):∀b,NmV (nu x y b)
 |true=>hy
 |false=>hx
theorem B7(x y:Str)(l:List Nat):vl (nu x y) (2000000::l)=x.cps.toList++vl (nu x y) l:=yd _ _
theorem B8(x y:Str)(l:List Nat):vl (nu x y) (2000001::l)=y.cps.toList++vl (nu x y) l:=yd _ _
theorem lm(x y:Str):vl (nu x y) [2000000]=x.cps.toList:=by rw[B7,ll,List.append_nil]
theorem V0(x y:Str):vl (nu x y) [2000001]=y.cps.toList:=by rw[B8,ll,List.append_nil]
theorem Hj:∀ν,vl ν (lit "(")=(Str.ofString "(").cps.toList:=λ_=>xz (by decide +kernel)
theorem C4:∀ν,vl ν (lit " or ")=(Str.ofString " or ").cps.toList:=λ_=>xz (by decide +kernel)
theorem Lp:∀ν,vl ν (lit ")")=(Str.ofString ")").cps.toList:=λ_=>xz (by decide +kernel)
theorem C5:∀ν,vl ν (lit "say ")=(Str.ofString "say ").cps.toList:=λ_=>xz (by decide +kernel)
theorem C6:∀ν,vl ν (lit "say not ")=(Str.ofString "say not ").cps.toList:=λ_=>xz (by decide +kernel)
theorem C7:∀ν,vl ν (lit "judge yn")=(Str.ofString "judge yn").cps.toList:=λ_=>xz (by decide +kernel)
theorem Ba:∀ν,vl ν [10]=(Str.ofString "\n").cps.toList:=λ_=>(xz (by decide +kernel)).trans (by decide +kernel)
theorem Bb:∀ν,vl ν (List.replicate 40 (lit "not ")).flatten=(Txt.mul (Str.ofString "not ") 40).cps.toList:=λ_=>(xz (by decide +kernel)).trans (by decide +kernel)
theorem al(x y:Str):∀i,(rho x y i).cps.toList=vl (nu x y) (sy0 i)
 |0=>(lm x y).symm
 |1=>(V0 x y).symm
 |2=>by
  unfold rho Os sy0;simp only[yX,zP,zJ,uu,lm,V0,Hj,C4,Lp]
 |3=>by
  unfold rho sy0;simp only[yX,zP,uu,lm,C5]
 |4=>by
  unfold rho sy0;simp only[yX,zP,uu,V0,C6]
 |5=>(C7 _).symm
 |6=>by
  unfold rho sy0;simp only[yX,zP,zJ,uu,lm,V0,C5,C6,C7,Ba]
 |7=>(Bb _).symm
 |_+8=>(show(Str.ofString "").cps.toList=[]by decide +kernel)
structure Tri(K:W.Frag)(H:Hp)(p:Addr)(x y:Str)(l:List Nat)(g:Say):Prop where
 ex:∃(bad good:Str)(v:V),H p=some (.lst [.str bad,.str good,v])/\bad.cps.toList=vl (nu x y) l/\good.cps.toList=tl g/\SayAt K H v g
 pc:g.pieces<=10
 lt:∀z∈g.letters,z=x\/z=y
def Ni(K:W.Frag):Sp:=λvs H Q _=>∃(k:Int)(x y:Str),vs=[.int k,.str x,.str y]/\NmV x/\NmV y/\∀(p:Addr)(H':Hp)(l:List Nat)(g:Say),Same H H'->l∈allBad->Tri K H' p x y l g->Q (.ref p) H'
theorem sc_blank:zm ["_law_way","_law_x","_law_y","_law_due","_law_some"] ["_law_way","_law_x","_law_y"] (zy (top 46)):=⟨rfl,rfl,rfl,by decide +kernel,rfl,by decide +kernel,by decide +kernel⟩
theorem uq{x:Str}(h:NmV x):x.length<=20:=(kc h).1
theorem Ps(D:Def K mg "_law_by_blank" (top 46) ["_law_way","_law_x","_law_y"])(aD:mg "len"=none):zh P w K mg base 1 "_law_by_blank" ["_law_way","_law_x","_law_y"] (Ni K):=by
 refine D.callee sc_blank (λvs H Q E h=>?_) λf cdv A outer s H vs Q E hr h=>?_
 ·obtain⟨k,x,y,rfl,_⟩:=h
  rfl
 have nd:=sc_blank.nd;obtain⟨k,x,y,rfl,hx,hy,q⟩:=h;have JR:=uq hx;have JQ:=uq hy;refine⟨[some (.int k),some (.str x),some (.str y),none,none],_,rfl,(zz (zn 3 nd (yy (z9 z7 (z9 (yy (z9 z7 (z9 (z8 1) z4))) (z9 (yy (z9 z7 (z9 (z8 2) z4))) z4)))))
  (zz (zn 4 nd (zd (z9 (z6 z5 (z6 z5 (z6 z5 (z6 z5 z7 (z8 1)) z7) (z8 2)) z7) (z9 (z6 z5 (z6 z5 (z6 z5 (z6 z5 z7 (z8 1)) z7) (z8 2)) z7) (z9 (z6 z5 (z6 z5 (z6 z5 (z6 z5 z7 (z8 1)) z7) (z8 2)) z7) z4)))))
  (zz (zn 4 nd (z6 z5 (z8 4) (zd (z9 (z6 z5 (z6 z5 (z6 z5 (z6 z5 z7 (z8 1)) z7) (z8 2)) z7) (z9 (z6 z5 (z6 z5 (z6 z5 (z6 z5 z7 (z8 1)) z7) (z8 2)) z7) (z9 (z6 z5 (z6 z5 (z6 z5 (z6 z5 z7 (z8 1)) z7) (z8 2)) z7) z4))))))
  (zz (zn 4 nd (z6 z5 (z8 4) (zd (z9 (z6 z5 (z6 z5 (z8 1) z7) (z8 2)) (z9 (z6 z5 (z6 z5 (z6 z5 z7 (z8 1)) z7) (z8 2)) (z9 (z6 z5 (z6 z5 (z6 z5 (z8 1) z7) (z8 2)) z7) (z9 (z6 z5 (z6 z5 (z6 z5 (z6 z5 z7 (z8 1)) z7) (z8 2)) z7) z4)))))))
  (zz (zn 4 nd (z6 z5 (z8 4) (zd (z9 (z6 z5 (z6 z5 (z6 z5 (z6 z5 z7 (z8 1)) z7) (z8 2)) z7) (z9 (z6 z5 (z6 z5 (z6 z5 (z6 z5 z7 (z8 1)) z7) (z8 2)) z7) (z9 (z6 z5 (z6 z5 (z6 z5 (z6 z5 z7 (z8 1)) z7) (z8 2)) z7) z4))))))
  (zz (zn 4 nd (z6 z5 (z8 4) (zd (z9 (z6 z5 (z6 z5 z7 (z8 1)) z7) z4))))
  (zz (zn 4 nd (z6 z5 (z8 4) (zd (z9 (z6 z5 (z6 z5 z7 (z8 2)) z7) (z9 (z6 z5 (z6 z5 (z6 z5 (z6 z5 z7 (z8 1)) z7) (z8 2)) z7) (z9 (z6 z5 (z6 z5 (z6 z5 (z6 z5 (z6 z5 (z6 z5 z7 (z8 1)) z7) (z8 2)) z7) (z8 1)) z7) z4))))))
  (zz (zn 4 nd (z6 z5 (z8 4) (zd (z9 (z6 z5 (z6 z5 (z6 z5 (z6 z5 z7 (z8 1)) z7) (z8 2)) z7) (z9 (z6 z5 (z6 z5 (z6 z5 (z6 z5 z7 (z8 1)) z7) (z8 2)) z7) (z9 (z6 z5 (z6 z5 (z6 z5 (z6 z5 z7 (z8 1)) z7) (z8 2)) z7) z4))))))
  (zz (zn 4 nd (z6 z5 (z8 4) (zd (z9 (z6 z5 (z6 z5 (z6 z5 (z6 z5 z7 (z8 1)) z7) (z8 2)) z7) (z9 (z6 z5 (z6 z5 (z6 z5 (z6 z5 z7 (z8 1)) z7) (z8 2)) z7) (z9 (z6 z5 (z6 z5 (z6 z5 (z6 z5 z7 (z8 1)) z7) (z8 2)) z7) z4))))))
  (zx (zk (zd (z9 (vy (z8 4) (z6 vk (z8 0) (zq ya rfl aD yp (z9 (z8 4) z4))) (λ_ _=>rfl)) (z9 (z6 z5 (z6 z5 (z6 z5 (z6 z5 z7 (z8 1)) z7) (z8 2)) z7) (z9 (z8 3) z4))))))))))))))),?_⟩
 walk_at"rp";refine⟨zt (by simp),λd1 D1 CW lR pC=>⟨zt (by simp),λd2 D2 EG kO qI=>⟨zt (by simp),λd3 D3 PY sU BY=>?_⟩⟩⟩;walk_at"rp"
 repeat(first|refine⟨by walk_at"sz",?_⟩|refine⟨zt (by simp),?_⟩)
 intro p1 H1 n1 s1 e1;have u1:=s1;walk_at"rp"
 repeat(first|refine⟨by walk_at"sz",?_⟩|refine⟨zt (by simp),?_⟩)
 intro q2 G2 m2 t2 f2;refine .inl ⟨_,_,t2 _ _ e1,f2,zt (by simp),λp2 H2 n2 s2 e2=>?_⟩;have u2:=u1.trans (t2.trans s2);walk_at"rp"
 repeat(first|refine⟨by walk_at"sz",?_⟩|refine⟨zt (by simp),?_⟩)
 intro q3 G3 m3 t3 f3;refine .inl ⟨_,_,t3 _ _ e2,f3,zt (by simp),λp3 H3 n3 s3 e3=>?_⟩;have u3:=u2.trans (t3.trans s3);walk_at"rp"
 repeat(first|refine⟨by walk_at"sz",?_⟩|refine⟨zt (by simp),?_⟩)
 intro q4 G4 m4 t4 f4;refine .inl ⟨_,_,t4 _ _ e3,f4,zt (by simp),λp4 H4 n4 s4 e4=>?_⟩;have u4:=u3.trans (t4.trans s4);walk_at"rp"
 repeat(first|refine⟨by walk_at"sz",?_⟩|refine⟨zt (by simp),?_⟩)
 intro q5 G5 m5 t5 f5;refine .inl ⟨_,_,t5 _ _ e4,f5,zt (by simp),λp5 H5 n5 s5 e5=>?_⟩;have u5:=u4.trans (t5.trans s5);walk_at"rp"
 repeat(first|refine⟨by walk_at"sz",?_⟩|refine⟨zt (by simp),?_⟩)
 intro q6 G6 m6 t6 f6;refine .inl ⟨_,_,t6 _ _ e5,f6,zt (by simp),λp6 H6 n6 s6 e6=>?_⟩;have u6:=u5.trans (t6.trans s6);walk_at"rp"
 repeat(first|refine⟨by walk_at"sz",?_⟩|refine⟨zt (by simp),?_⟩)
 intro q7 G7 m7 t7 f7;refine .inl ⟨_,_,t7 _ _ e6,f7,zt (by simp),λp7 H7 n7 s7 e7=>?_⟩;have u7:=u6.trans (t7.trans s7);walk_at"rp"
 repeat(first|refine⟨by walk_at"sz",?_⟩|refine⟨zt (by simp),?_⟩)
 intro q8 G8 m8 t8 f8;refine .inl ⟨_,_,t8 _ _ e7,f8,zt (by simp),λp8 H8 n8 s8 e8=>?_⟩;have u8:=u7.trans (t8.trans s8);walk_at"rp";obtain⟨v,hv,ev⟩:=tf (xs:=blankT.map λt=>V.str (qm (rho x y) t)) (k:=k % ((blankT.map λt=>V.str (qm (rho x y) t)).length:Int)) (wP _ (by rw[zV];decide)) (wZ _ (by rw[zV];decide));obtain⟨t,ht,rfl⟩:=yW.mp hv;have e8':H8 p8=some (.lst (blankT.map λt=>V.str (qm (rho x y) t))):=e8;refine⟨_,.inl (SqL.of e8'),by rw[zV];decide,_,_,.inl (SqL.of e8'),ev,?_⟩
 repeat(first|refine⟨by walk_at"sz",?_⟩|refine⟨zt (by simp),?_⟩)
 intro p9 H9 n9 s9 e9;have GN:=u8.trans s9;have EB:=sU.trans GN;have EC:=kO.trans EB;refine q p9 H9 (fc sy0 t) (.bin .con (.letter x) (.letter y)) (lR.trans EC) (yH (yU _ ht)) ⟨⟨_,_,_,e9,mi (al x y) (yS.mp bc t (yU _ ht)),?_,⟨d3,_,_,rfl,SqT.of (GN _ _ BY),⟨d1,rfl,SqT.of (EC _ _ pC)⟩,⟨d2,rfl,SqT.of (EB _ _ qI)⟩⟩⟩,by simp[Say.pieces],λz hz=>?_⟩
 ·rw[lc];simp only[yX,zP,zJ]
  rfl
 ·rcases zK.mp hz with z1|z1
  ·exact .inl (zX.mp z1)
  ·exact .inr (zX.mp z1)
theorem sc_byif:zm ["_law_way","_law_x","_law_y","_law_due","_law_inner","_law_some"] ["_law_way","_law_x","_law_y"] (zy (top 47)):=⟨rfl,rfl,rfl,by decide +kernel,rfl,by decide +kernel,by decide +kernel⟩
theorem L7(D:Def K mg "_law_by_if" (top 47) ["_law_way","_law_x","_law_y"])(aD:mg "len"=none):zh P w K mg base 1 "_law_by_if" ["_law_way","_law_x","_law_y"] (Ni K):=by
 refine D.callee sc_byif (λvs H Q E h=>?_) λf cdv A outer s H vs Q E hr h=>?_
 ·obtain⟨k,x,y,rfl,_⟩:=h
  rfl
 have nd:=sc_byif.nd;obtain⟨k,x,y,rfl,hx,hy,q⟩:=h;have JR:=uq hx;have JQ:=uq hy;refine⟨[some (.int k),some (.str x),some (.str y),none,none,none],_,rfl,(zz (zn 3 nd (yy (z9 z7 (z9 (yy (z9 z7 (z9 (z8 1) z4))) (z9 (yy (z9 z7 (z9 (yy (z9 z7 (z9 (z8 2) z4))) (z9 (yy (z9 z7 (z9 (z8 1) z4))) z4)))) z4)))))
  (zz (zn 4 nd (z6 z5 (z6 z5 (z6 z5 (z6 z5 z7 (z8 2)) z7) (z8 1)) z7))
  (zz (zn 5 nd (zd (z9 (z6 z5 (z6 z5 (z6 z5 (z6 z5 z7 (z8 1)) z7) (z8 4)) z7) (z9 (z6 z5 (z6 z5 (z6 z5 (z6 z5 z7 (z8 1)) z7) (z8 4)) z7) (z9 (z6 z5 (z6 z5 (z6 z5 z7 (z8 1)) z7) (z8 4)) z4)))))
  (zz (zn 5 nd (z6 z5 (z8 5) (zd (z9 (z6 z5 (z6 z5 (z6 z5 z7 (z8 1)) z7) (z8 4)) (z9 (z6 z5 (z6 z5 (z6 z5 (z6 z5 z7 (z8 1)) z7) (z8 4)) z7) (z9 (z6 z5 (z6 z5 (z6 z5 (z6 z5 z7 (z8 1)) z7) (z8 4)) z7) z4))))))
  (zz (zn 5 nd (z6 z5 (z8 5) (zd (z9 (z6 z5 (z6 z5 (z6 z5 (z6 z5 z7 (z8 1)) z7) (z8 4)) z7) (z9 (z6 z5 (z6 z5 (z6 z5 (z6 z5 (z6 z5 (z6 z5 z7 (z8 1)) z7) (z8 4)) z7) (z8 2)) z7) z4)))))
  (zz (zn 5 nd (z6 z5 (z8 5) (zd (z9 (z6 z5 (z6 z5 z7 (z8 1)) z7) (z9 (z6 z5 (z6 z5 z7 (z8 4)) z7) (z9 (z6 z5 (z6 z5 (z6 z5 (z6 z5 z7 (z8 1)) z7) (z8 4)) z7) z4))))))
  (zz (zn 5 nd (z6 z5 (z8 5) (zd (z9 (z6 z5 (z6 z5 (z6 z5 (z6 z5 z7 (z8 1)) z7) (z8 4)) z7) (z9 (z6 z5 (z6 z5 (z6 z5 (z6 z5 z7 (z8 1)) z7) (z8 4)) z7) z4)))))
  (zx (zk (zd (z9 (vy (z8 5) (z6 vk (z8 0) (zq ya rfl aD yp (z9 (z8 5) z4))) (λ_ _=>rfl)) (z9 (z6 z5 (z6 z5 (z6 z5 (z6 z5 z7 (z8 1)) z7) (z8 4)) z7) (z9 (z8 3) z4))))))))))))),?_⟩
 walk_at"rp";refine⟨zt (by simp),λd1 D1 CW lR pC=>⟨zt (by simp),λd2 D2 EG kO qI=>⟨zt (by simp),λd3 D3 PY sU BY=>⟨zt (by simp),λd4 D4 nd4 GK VO=>⟨zt (by simp),λd5 D5 nd5 sd5 ed5=>?_⟩⟩⟩⟩⟩;walk_at"rp"
 repeat(first|refine⟨by walk_at"sz",?_⟩|refine⟨zt (by simp),?_⟩)
 walk_at"rp"
 repeat(first|refine⟨by walk_at"sz",?_⟩|refine⟨zt (by simp),?_⟩)
 intro p1 H1 n1 s1 e1;have u1:=s1;walk_at"rp"
 repeat(first|refine⟨by walk_at"sz",?_⟩|refine⟨zt (by simp),?_⟩)
 intro q2 G2 m2 t2 f2;refine .inl ⟨_,_,t2 _ _ e1,f2,zt (by simp),λp2 H2 n2 s2 e2=>?_⟩;have u2:=u1.trans (t2.trans s2);walk_at"rp"
 repeat(first|refine⟨by walk_at"sz",?_⟩|refine⟨zt (by simp),?_⟩)
 intro q3 G3 m3 t3 f3;refine .inl ⟨_,_,t3 _ _ e2,f3,zt (by simp),λp3 H3 n3 s3 e3=>?_⟩;have u3:=u2.trans (t3.trans s3);walk_at"rp"
 repeat(first|refine⟨by walk_at"sz",?_⟩|refine⟨zt (by simp),?_⟩)
 intro q4 G4 m4 t4 f4;refine .inl ⟨_,_,t4 _ _ e3,f4,zt (by simp),λp4 H4 n4 s4 e4=>?_⟩;have u4:=u3.trans (t4.trans s4);walk_at"rp"
 repeat(first|refine⟨by walk_at"sz",?_⟩|refine⟨zt (by simp),?_⟩)
 intro q5 G5 m5 t5 f5;refine .inl ⟨_,_,t5 _ _ e4,f5,zt (by simp),λp5 H5 n5 s5 e5=>?_⟩;have u5:=u4.trans (t5.trans s5);walk_at"rp";obtain⟨v,hv,ev⟩:=tf (xs:=ifT.map λt=>V.str (qm (rho x y) t)) (k:=k % ((ifT.map λt=>V.str (qm (rho x y) t)).length:Int)) (wP _ (by rw[zV];decide)) (wZ _ (by rw[zV];decide));obtain⟨t,ht,rfl⟩:=yW.mp hv;have e5':H5 p5=some (.lst (ifT.map λt=>V.str (qm (rho x y) t))):=e5;refine⟨_,.inl (SqL.of e5'),by rw[zV];decide,_,_,.inl (SqL.of e5'),ev,?_⟩
 repeat(first|refine⟨by walk_at"sz",?_⟩|refine⟨zt (by simp),?_⟩)
 intro p9 H9 n9 s9 e9;have s59:=u5.trans s9;have s49:=sd5.trans s59;have GN:=GK.trans s49;have EB:=sU.trans GN;have EC:=kO.trans EB;refine q p9 H9 (fc sy0 t) (.bin .imp (.letter x) (.bin .dis (.letter y) (.letter x))) (lR.trans EC) (yH (zQ _ (yU _ ht))) ⟨⟨_,_,_,e9,mi (al x y) (yS.mp bc t (zQ _ (yU _ ht))),?_,⟨d5,_,_,rfl,SqT.of (s59 _ _ ed5),⟨d1,rfl,SqT.of (EC _ _ pC)⟩,⟨d4,_,_,rfl,SqT.of (s49 _ _ VO),⟨d2,rfl,SqT.of (EB _ _ qI)⟩,⟨d3,rfl,SqT.of (GN _ _ BY)⟩⟩⟩⟩,by simp[Say.pieces],λz hz=>?_⟩
 ·rw[lg,lf];simp only[yX,zP,zJ]
  rfl
 ·simp only[Say.letters,zK,zX]at hz;rcases hz with z1|z1|z1
  ·exact .inl z1
  ·exact .inr z1
  ·exact .inl z1
local macro_rules|`(tactic| walk_at "sz")=>`(tactic| (refine szt ?_;(try simp only[yo,Wn,Wo,Wp,Wq,Wr,Ws,Wt,Wu,Wv,Ww,ge,gf,gg,gh,gj,gk,gl,gm,gn,gp,gq,gr,gu,gw,gx,gy,g0,g6,g9,ia,ib,ie,ig,ij,ik,il,im,io,ip,iq,ir,iu,iw,iz,i0,i3,i4,i5,i6,i7,i8,i9,jb,jc,jd,je,jf,jg,jh,ji,jj,jk,jm,jn,jo,jq,jr,js,jt,ju,jw,jx,jy,jz,j4,j5]);lia))
def wrongL:List Str:=[Str.ofString "not",Str.ofString "and",Str.ofString "or",Str.ofString "if",Str.ofString "then",Str.ofString "say",Str.ofString "judge",Str.ofString "abcdefg",Str.ofString "A",Str.ofString "a1",Str.ofString "a_b",Str.ofString "1",Str.ofString "",Str.ofString "x-",Str.ofString "a.b"]
theorem Uh:∀z∈wrongL,z.length<=20:=by decide +kernel
theorem sc_byname:zm ["_law_way","_law_x","_law_due","_law_wrong","_law_some"] ["_law_way","_law_x"] (zy (top 48)):=⟨rfl,rfl,rfl,by decide +kernel,rfl,by decide +kernel,by decide +kernel⟩
def K0(K:W.Frag):Sp:=λvs H Q _=>∃(k:Int)(x y:Str),vs=[.int k,.str x]/\NmV x/\NmV y/\∀(p:Addr)(H':Hp)(l:List Nat)(g:Say),Same H H'->l∈allBad->Tri K H' p x y l g->Q (.ref p) H'
theorem Te(D:Def K mg "_law_by_name" (top 48) ["_law_way","_law_x"])(aD:mg "len"=none):zh P w K mg base 1 "_law_by_name" ["_law_way","_law_x"] (K0 K):=by
 refine D.callee sc_byname (λvs H Q E h=>?_) λf cdv A outer s H vs Q E hr h=>?_
 ·obtain⟨k,x,y,rfl,_⟩:=h
  rfl
 have nd:=sc_byname.nd;obtain⟨k,x,y,rfl,hx,hy,q⟩:=h;have JR:=uq hx;refine⟨[some (.int k),some (.str x),none,none,none],_,rfl,(@zz _ _ _ _ _ (@zn _ 2 _ _ _ _ _ nd (yy (z9 z7 (z9 (yy (z9 z7 (z9 (z8 1) z4))) z4))) (by rfl) (by first|exact Or.inl rfl|exact Or.inr rfl) (by rfl) (by first|exact .inl rfl|exact .inr rfl))
  (@zz _ _ _ _ _ (@zn _ 3 _ _ _ _ _ nd (@zd _ _ _ _ (@z9 _ _ _ _ _ (@z7 _ _ _ _) (@z9 _ _ _ _ _ (@z7 _ _ _ _) (@z9 _ _ _ _ _ (@z7 _ _ _ _) (@z9 _ _ _ _ _ (@z7 _ _ _ _) (@z9 _ _ _ _ _ (@z7 _ _ _ _) (@z9 _ _ _ _ _ (@z7 _ _ _ _) (@z9 _ _ _ _ _ (@z7 _ _ _ _) (@z9 _ _ _ _ _ (@z7 _ _ _ _) (@z9 _ _ _ _ _ (@z7 _ _ _ _) (@z9 _ _ _ _ _ (@z7 _ _ _ _) (@z9 _ _ _ _ _ (@z7 _ _ _ _) (@z9 _ _ _ _ _ (@z7 _ _ _ _) (@z9 _ _ _ _ _ (@z7 _ _ _ _) (@z9 _ _ _ _ _ (@z7 _ _ _ _) (@z9 _ _ _ _ _ (@z7 _ _ _ _) (@z4 _) (by rfl)) (by rfl)) (by rfl)) (by rfl)) (by rfl)) (by rfl)) (by rfl)) (by rfl)) (by rfl)) (by rfl)) (by rfl)) (by rfl)) (by rfl)) (by rfl)) (by rfl))) (by rfl) (by first|exact Or.inl rfl|exact Or.inr rfl) (by rfl) (by first|exact .inl rfl|exact .inr rfl))
  (@zz _ _ _ _ _ (@zn _ 4 _ _ _ _ _ nd (z6 z5 (vx (ixs:=[]) (xq (own:=["_law_word"]) (N:=[]) rfl rfl rfl rfl rfl rfl rfl (by decide +kernel) rfl rfl rfl) rfl (wt (z8 3)) (λ_ _ _ _=>v8) (λ_ _ _ _=>(z6 z5 z7 (z8 0))) rfl) (zd (z9 (z6 z5 z7 (z8 1)) (z9 (z6 z5 z7 z7) (z9 (z6 z5 z7 (z8 1)) (z9 (z6 z5 (z6 z5 z7 (z8 1)) z7) (z9 (z6 z5 z7 (z8 1)) z4))))))) (by rfl) (by first|exact Or.inl rfl|exact Or.inr rfl) (by rfl) (by first|exact .inl rfl|exact .inr rfl))
  (@zz _ _ _ _ _ (@zn _ 4 _ _ _ _ _ nd (z6 z5 (z8 4) (zd (z9 (z6 z5 (z6 z5 (z6 z5 z7 (z8 1)) z7) (z8 1)) (z9 (z6 z5 (z6 z5 z7 (z8 1)) z7) (z9 (z6 z5 (z6 z5 z7 (z8 1)) z7) (z9 (z6 z5 z7 (z8 1)) z4)))))) (by rfl) (by first|exact Or.inl rfl|exact Or.inr rfl) (by rfl) (by first|exact .inl rfl|exact .inr rfl))
  (@zx _ _ _ (zk (zd (z9 (vy (z8 4) (z6 vk (z8 0) (zq ya rfl aD yp (z9 (z8 4) z4))) (λ_ _=>rfl)) (z9 (z6 z5 z7 (z8 1)) (z9 (z8 2) z4)))))))))),?_⟩
 walk_at"rp";refine⟨zt (by simp),λd1 D1 CW lR pC=>⟨zt (by simp),λd2 D2 EG kO qI=>?_⟩⟩;walk_at"rp";refine⟨zt (by simp),λd3 D3 PY sU BY=>?_⟩;walk_at"rp";have VP:D3 d3=some (.lst (wrongL.map V.str)):=BY;refine .inl ⟨⟨_,SqL.of VP⟩,λC s₀ H₀ ex=>?_⟩;refine Yg (xs:=wrongL.map V.str) (λD i ys H'=>ys=(wrongL.take i).map (λz=>V.str (Str.ofString "not "++z))/\i<=15/\H' D=some (.lst ys)/\Same D3 H'/\D3 D=none) (zt (by decide)) ?_ ?_ ?_ ?_
 ·intro D H2 n2 s2 e2;exact⟨rfl,by decide,e2,s2,n2⟩
 ·rintro D i ys H2 ⟨rfl,hi,e2,s2,_⟩;exact⟨SqL.of (s2 _ _ VP),e2,by rw[zV,wD];exact Nat.min_eq_left hi⟩
 ·rintro D i v ys H2 hv ⟨rfl,hi,e2,s2,n2⟩;rw[yI]at hv;cases e3:wrongL[i]? with
  |none=>rw[e3]at hv;cases hv
  |some z =>
  rw[e3]at hv;cases hv;have bA:i<15:=(zR.mp e3).1;have hzl:=Uh z (zB e3);walk_at"rp";refine⟨by walk_at"sz",e2,CN.mk (by rw[zV];exact bA) ⟨?_,bA,zu,zf s2 n2 _,n2⟩⟩;rw[xU,e3,yM]
  rfl
 rintro l1 ys1 H1 ⟨rfl,_,e1,s1,n1⟩
 repeat(first|refine⟨by walk_at"sz",?_⟩|refine⟨zt (by simp),?_⟩)
 intro q2 G2 m2 t2 f2;walk_at"rp";refine .inl ⟨_,_,t2 _ _ e1,f2,zt (show 20<=1000 by decide),λp2 H2 n2 s2 e2=>?_⟩;have u2:=s1.trans (t2.trans s2);walk_at"rp"
 repeat(first|refine⟨by walk_at"sz",?_⟩|refine⟨zt (by simp),?_⟩)
 intro q3 G3 m3 t3 f3;refine .inl ⟨_,_,t3 _ _ e2,f3,zt (show 24<=1000 by decide),λp3 H3 n3 s3 e3=>?_⟩;have u3:=u2.trans (t3.trans s3);walk_at"rp";obtain⟨v,hv,ev⟩:=tf (xs:=nameT.map λt=>V.str (qm (rho x y) t)) (k:=k % ((nameT.map λt=>V.str (qm (rho x y) t)).length:Int)) (wP _ (by rw[zV];decide)) (wZ _ (by rw[zV];decide));obtain⟨t,ht,rfl⟩:=yW.mp hv;have e3':H3 p3=some (.lst (nameT.map λt=>V.str (qm (rho x y) t))):=e3;refine⟨_,.inl (SqL.of e3'),by rw[zV];decide,_,_,.inl (SqL.of e3'),ev,?_⟩
 repeat(first|refine⟨by walk_at"sz",?_⟩|refine⟨zt (by simp),?_⟩)
 intro p9 H9 n9 s9 e9;have GN:=u3.trans s9;have EB:=sU.trans GN;have EC:=kO.trans EB;have hmt:t∈blankT++(ifT++(nameT++lineT)):=zQ _ (zQ _ (yU _ ht));refine q p9 H9 (fc sy0 t) (.neg (.letter x)) (lR.trans EC) (yH (zQ _ (zQ _ ht))) ⟨⟨_,_,_,e9,mi (al x y) (yS.mp bc t hmt),?_,⟨d2,_,rfl,SqT.of (EB _ _ qI),⟨d1,rfl,SqT.of (EC _ _ pC)⟩⟩⟩,by simp[Say.pieces],λz hz=>.inl (zX.mp hz)⟩;rw[si];simp only[yX,zP]
 rfl
local macro_rules|`(tactic| walk_at "sz")=>`(tactic| (refine szt ?_;(try simp only[yo,Wn,Wo,Wp,Wq,Wr,Ws,Wt,Wu,Wv,Ww,ge,gf,gg,gh,gj,gk,gl,gm,gn,gp,gq,gr,gu,gw,gx,gy,g0,g6,g9,ia,ib,ie,ig,ij,ik,il,im,io,ip,iq,ir,iu,iw,iz,i0,i3,i4,i5,i6,i7,i8,i9,jb,jc,jd,je,jf,jg,jh,ji,jj,jk,jm,jn,jo,jq,jr,js,jt,ju,jw,jx,jy,jz,j4,j5]);lia))
def ngs:Nat->Say->Say
 |0,t=>t
 |n+1,t=>.neg (ngs n t)
theorem W8(n:Nat)(t:Say):(ngs n t).pieces=n+t.pieces:=by
 induction n with
 |zero=>simp[ngs]
 |succ n ih=>simp only[ngs,Say.pieces,ih];lia
theorem Hy(n:Nat)(t:Say):(ngs n t).letters=t.letters:=by
 induction n with
 |zero=>rfl
 |succ n ih=>exact ih
theorem Pl(n:Nat)(t:Say):tl (ngs n t)=(List.replicate n (lit "not ")).flatten++tl t:=by
 induction n with
 |zero=>rfl
 |succ n ih=>rw[ngs,si,ih,List.replicate_succ,List.flatten_cons,zJ]
def chs(o:Op2)(x:Str):Nat->Say
 |0=>.letter x
 |n+1=>.bin o (chs o x n) (.letter x)
theorem Wc(o:Op2)(x:Str)(n:Nat):(chs o x n).pieces=2*n+1:=by
 induction n with
 |zero=>simp[chs,Say.pieces]
 |succ n ih=>simp only[chs,Say.pieces,ih];lia
theorem Gu(o:Op2)(x:Str)(n:Nat):∀z∈(chs o x n).letters,z=x:=by
 induction n with
 |zero=>intro z hz;exact zX.mp hz
 |succ n ih =>
  intro z hz;rcases zK.mp hz with h|h
  ·exact ih z h
  ·exact zX.mp h
theorem Vy{s:Str}{t:Say}(h:s.cps.toList=tl t):s=t.text:=Str.ext' (xE.mp h)
theorem X5{s:Str}{t:Say}(h:s.cps.toList=tl t)(hp:t.pieces<=60)(hv:∀y∈t.letters,NmV y):xf s:=by rw[Vy h];exact Nv hp hv
def Uj(K:W.Frag)(H:Hp)(p:Addr):Prop:=∃(bad good:Str)(v:V)(g:Say),H p=some (.lst [.str bad,.str good,v])/\(xf bad/\sm bad.cps.toList=none)/\(xf good/\sm good.cps.toList=some g)/\SayAt K H v g/\g.pieces<=40
theorem U6{H:Hp}{p:Addr}{bad good:Str}{v:V}{b g:Say}(hp:H p=some (.lst [.str bad,.str good,v]))(hb:bad.cps.toList=tl b)(hg:good.cps.toList=tl g)(hv:SayAt K H v g)(b40:40<b.pieces)(b60:b.pieces<=60)(g40:g.pieces<=40)(nb:∀y∈b.letters,NmV y)(ng:∀y∈g.letters,NmV y):Uj K H p :=
 ⟨bad,good,v,g,hp,⟨X5 hb b60 nb,by rw[hb,rh nb,zM (by lia)]⟩,⟨X5 hg (by lia) ng,by rw[hg,rh ng,zG g40]⟩,hv,g40⟩
theorem Hx:(Txt.mul (Str.ofString "not ") 40).cps.toList=(List.replicate 40 (lit "not ")).flatten:=by decide +kernel
theorem Hw:(Txt.mul (Str.ofString "not ") 39).cps.toList=(List.replicate 39 (lit "not ")).flatten:=by decide +kernel
theorem Ks:(Txt.mul (Str.ofString "not ") 40).length=160:=by decide +kernel
theorem Dz:(Txt.mul (Str.ofString "not ") 39).length=156:=by decide +kernel
theorem Am:(Str.ofString "(").length=1:=by decide +kernel
theorem An:(Str.ofString " ").length=1:=by decide +kernel
theorem Ao:(Str.ofString ")").length=1:=by decide +kernel
theorem Ye{o:Op2}{x tx:Str}{n:Nat}(ho:o = .con\/o = .dis)(h:tx.cps.toList=tl (chs o x n)):(Str.ofString "("++tx++Str.ofString " "++o.word++Str.ofString " "++x++Str.ofString ")").cps.toList=tl (chs o x (n+1)):=by
 rw[Vy h];rcases ho with rfl|rfl
 ·show _=((Say.bin .con (chs .con x n) (.letter x)).text).cps.toList;simp only[Say.text,Op2.word,yX,zP,zJ]
 ·show _=((Say.bin .dis (chs .dis x n) (.letter x)).text).cps.toList;simp only[Say.text,Op2.word,yX,zP,zJ]
theorem pb{s:Str}{n:Int}(hs:s.length<=4)(h0:0<=n)(h:n<=3000):MulOk s n:=mulOk_of 4 3000 hs h (by lia) (by decide) (by decide)
theorem W5(n:Int)(h0:0<=n)(h:n<=3000):MulOk (Str.ofString "not ") n:=pb (by decide +kernel) h0 h
def Rc(K:W.Frag):Sp:=λvs H Q _=>∃(k:Int)(x:Str),vs=[.int k,.str x]/\NmV x/\∀(p:Addr)(H':Hp),Same H H'->Uj K H' p->Q (.ref p) H'
theorem sc_bysize:zm ["_law_way","_law_x","_law_due","_law_k","_law_word","_law_text"] ["_law_way","_law_x"] (zy (top 49)):=⟨rfl,rfl,rfl,by decide +kernel,rfl,by decide +kernel,by decide +kernel⟩
theorem Tf(D:Def K mg "_law_by_size" (top 49) ["_law_way","_law_x"])(aQ:mg "range"=none):zh P w K mg base 1 "_law_by_size" ["_law_way","_law_x"] (Rc K):=by
 refine D.callee sc_bysize (λvs H Q E h=>?_) λf cdv A outer s H vs Q E hr h=>?_
 ·obtain⟨k,x,rfl,_⟩:=h
  rfl
 have nd:=sc_bysize.nd;obtain⟨k,x,rfl,hx,q⟩:=h;have JR:=uq hx;refine⟨[some (.int k),some (.str x),none,none,none,none],_,rfl,(zz (za (zc (wb hr.units) (z6 vk (z8 0) zv) zv (ze _)) (zz (zn 2 nd (yy (z9 z7 (z9 (z8 1) z4))))
  (zz (uk xV rfl (vm rfl aQ (z9 zv z4)) (ve 3 nd) (zx (zn 2 nd (yy (z9 z7 (z9 (z8 2) z4))))))
  (zx (zk (zd (z9 (z6 z5 (z6 pw z7 zv) (z8 1)) (z9 (z6 z5 (z6 pw z7 zv) (z8 1)) (z9 (z8 2) z4)))))))) zi)
  (zz (zn 4 nd (vy (zd (z9 z7 (z9 z7 z4))) (z6 vk (z8 0) zv) (λ_ _=>rfl)))
  (zz (zn 2 nd (yy (z9 z7 (z9 (z8 1) z4))))
  (zz (zn 5 nd (z8 1))
  (zz (uk xV rfl (vm rfl aQ (z9 zv z4)) (ve 3 nd) (zz (zn 2 nd (yy (z9 (z8 4) (z9 (z8 2) (z9 (yy (z9 z7 (z9 (z8 1) z4))) z4)))))
  (zx (zn 5 nd (z6 z5 (z6 z5 (z6 z5 (z6 z5 (z6 z5 (z6 z5 z7 (z8 5)) z7) (z8 4)) z7) (z8 1)) z7)))))
  (zx (zk (zd (z9 (z6 z5 (z6 z5 (z6 z5 (z6 z5 (z6 z5 (z6 z5 z7 (z8 5)) z7) (z8 4)) z7) (z8 1)) z7) (z9 (z6 z5 z7 (z8 5)) (z9 (yy (z9 z7 (z9 (z8 2) z4))) z4))))))))))),?_⟩
 walk_at"rp";refine⟨by decide,xi (λ_=>?_) λ_=>?_⟩
 ·walk_at"rp";refine⟨zt (by simp),λd1 D1 CW lR pC=>?_⟩;walk_at"rp";refine⟨⟨by decide,by decide⟩,?_⟩;refine ua (λi σ H2=>(∃(v:V)(jv:Option V),σ=[some (.int k),some (.str x),some v,jv,none,none]/\SayAt K H2 v (ngs i (.letter x)))/\Same H H2) ⟨⟨_,_,rfl,d1,rfl,SqT.of pC⟩,lR⟩ ?_ ?_
  ·rintro i σ H2 hi ⟨⟨v,jv,rfl,hv⟩,s2⟩;walk_at"rp";refine⟨zt (by simp),λd2 D2 EG kO qI=>⟨⟨_,_,rfl,d2,v,rfl,SqT.of qI,hv.mono (zw kO)⟩,s2.trans kO⟩⟩
  ·rintro σ H2 ⟨⟨v,jv,rfl,hv⟩,s2⟩;walk_at"rp";refine⟨_,_,rfl,rfl,W5 40 (by decide) (by decide),szt (by rw[Ks];lia),_,_,rfl,rfl,W5 39 (by decide) (by decide),szt (by rw[Dz];lia),zt (by simp),λp3 H3 n3 s3 e3=>q p3 H3 (s2.trans s3) ?_⟩;have lt:∀n,∀y∈(ngs n (.letter x)).letters,NmV y:=λn y hy=>by
    rw[Hy]at hy;rw[zX.mp hy];exact hx
   refine U6 (b:=ngs 40 (.letter x)) (g:=ngs 39 (.letter x)) e3 ?_ ?_ (hv.mono (zw s3)) (by rw[W8];simp[Say.pieces]) (by rw[W8];simp[Say.pieces]) (by rw[W8];simp[Say.pieces]) (lt 40) (lt 39)
   ·rw[Pl,yX,zP,Hx]
    rfl
   ·rw[Pl,yX,zP,Hw]
    rfl
 ·walk_at"rp";refine⟨zt (by simp),λl1 D1 CW lR pC=>⟨by decide,?_⟩⟩;walk_at"rp";obtain⟨o,ho,ev⟩:∃o:Op2,(o = .con\/o = .dis)/\atI [V.str (Str.ofString "and"),V.str (Str.ofString "or")] (k % 2)=some (.str o.word):=by
   have h0:=wP k (show(2:Int)≠0 by decide);have h1:=wZ k (show(0:Int)<2 by decide);rcases(show k % 2=0\/k % 2=1 by lia)with z|z
   ·exact⟨.con,.inl rfl,by rw[z];rfl⟩
   ·exact⟨.dis,.inr rfl,by rw[z];rfl⟩
  have how:o.word.length<=3:=by
   rcases ho with rfl|rfl<;>decide +kernel
  refine⟨_,_,.inl (SqL.of pC),ev,?_⟩;walk_at"rp";refine⟨zt (by simp),λd2 D2 EG kO qI=>?_⟩;walk_at"rp";refine⟨⟨by decide,by decide⟩,?_⟩;refine ua (λi σ H2=>(∃(v:V)(tx:Str)(jv:Option V),σ=[some (.int k),some (.str x),some v,jv,some (.str o.word),some (.str tx)]/\SayAt K H2 v (chs o x i)/\tx.cps.toList=tl (chs o x i)/\tx.length<=40*(i+1))/\Same H H2) ⟨⟨_,_,_,rfl,⟨d2,rfl,SqT.of qI⟩,rfl,by lia⟩,lR.trans kO⟩ ?_ ?_
  ·rintro i σ H2 hi ⟨⟨v,tx,jv,rfl,hv,htx,hlx⟩,s2⟩;have Aa:i<19:=hi;walk_at"rp";refine⟨zt (by simp),λd3 D3 PY sU BY=>⟨zt (by simp),λd4 D4 nd4 GK VO=>?_⟩⟩;walk_at"rp"
   repeat(first|refine⟨by walk_at"sz",?_⟩)
   refine⟨⟨_,_,_,rfl,⟨d4,v,_,rfl,SqT.of VO,hv.mono (zw (sU.trans GK)),⟨d3,rfl,SqT.of (GK _ _ BY)⟩⟩,Ye ho htx,?_⟩,s2.trans (sU.trans GK)⟩;simp only[yo,Am,An,Ao];lia
  ·rintro σ H2 ⟨⟨v,tx,jv,rfl,hv,htx,hlx⟩,s2⟩;walk_at"rp"
   repeat(first|refine⟨by walk_at"sz",?_⟩)
   refine⟨zt (by simp),λd3 D3 PY sU BY=>⟨zt (by simp),λp4 H4 n4 s4 e4=>q p4 H4 (s2.trans (sU.trans s4)) ?_⟩⟩;have lt:∀n,∀y∈(chs o x n).letters,NmV y:=λn y hy=>by rw[Gu o x n y hy];exact hx
   refine U6 (b:=chs o x 20) (g:=.neg (chs o x 19)) e4 (Ye ho htx) ?_ ⟨d3,v,rfl,SqT.of (s4 _ _ BY),hv.mono (zw (sU.trans s4))⟩ (by rw[Wc];decide) (by rw[Wc];decide) (by simp only[Say.pieces];rw[Wc];decide) (lt 20) (lt 19);rw[si,yX,zP,htx]
   rfl
local macro_rules|`(tactic| walk_at "sz")=>`(tactic| (refine szt ?_;(try simp only[yo,Wn,Wo,Wp,Wq,Wr,Ws,Wt,Wu,Wv,Ww,ge,gf,gg,gh,gj,gk,gl,gm,gn,gp,gq,gr,gu,gw,gx,gy,g0,g6,g9,ia,ib,ie,ig,ij,ik,il,im,io,ip,iq,ir,iu,iw,iz,i0,i3,i4,i5,i6,i7,i8,i9,jb,jc,jd,je,jf,jg,jh,ji,jj,jk,jm,jn,jo,jq,jr,js,jt,ju,jw,jx,jy,jz,j4,j5]);lia))
theorem Rv{x y:Str}(hx:NmV x)(hy:NmV y):∀m:List Nat,(vl (nu x y) m).length<=20*m.length
 |[]=>zT _
 |n::m=>by
  have ih:=Rv hx hy m;have h1:(nmL (nu x y) n).length<=20:=by
   cases hn:isN n with
   |false=>rw[qj hn];exact(show 1<=20 by decide)
   |true =>
    obtain⟨b,eb⟩:=ka (ν:=nu x y) hn;rw[eb,ym];exact uq (nc hx hy b)
  rw[yd,zE,yL];lia
theorem Gb{x y:Str}(hx:NmV x)(hy:NmV y){m:List Nat}(h:∀n∈m,n<4000000):∀c∈vl (nu x y) m,c<16 ^ 8:=λc hc=>by
 obtain⟨n,hn,hc⟩:=List.mem_flatMap.mp hc;cases hi:isN n with
 |false =>
  rw[qj hi]at hc;rw[zX.mp hc];have:=h n hn;lia
 |true =>
  obtain⟨b,eb⟩:=ka (ν:=nu x y) hi;rw[eb]at hc;have:=sg ((nc hx hy b).2 c hc);lia
theorem X6{x y s:Str}(hx:NmV x)(hy:NmV y){m:List Nat}(h:s.cps.toList=vl (nu x y) m)(ho:okL m=true):xf s:=by
 unfold okL at ho;rw[yY]at ho;have h1:=zF ho.1;have h2:=Rv hx hy m;have h3:=ym s;rw[h]at h3;refine⟨by lia,λc hc=>Gb hx hy (λn hn=>zF (yS.mp ho.2 n hn)) c (by rw[<-h];exact hc)⟩
theorem ou{x y s:Str}(hx:NmV x)(hy:NmV y){l:List Nat}(hl:l∈allBad){c:Nat}(hc:c<5)(h:s.cps.toList=vl (nu x y) (We c l)):xf s/\sm s.cps.toList=none:=by
 have h1:=yS.mp (yS.mp Ld l hl) c (xL.mpr hc);rw[yY]at h1;exact⟨X6 hx hy h h1.1,by rw[h];exact kj (nc hx hy) h1.2⟩
theorem o6{s:Str}{g:Say}(h:s.cps.toList=tl g)(hp:g.pieces<=40)(hv:∀y∈g.letters,NmV y):xf s/\sm s.cps.toList=some g:=⟨X5 h (by lia) hv,by rw[h,rh hv,zG hp]⟩
theorem Be:∀ν,vl ν (lit "not ")=(Str.ofString "not ").cps.toList:=λ_=>xz (by decide +kernel)
theorem Bc:∀ν,vl ν (lit " and ")=(Str.ofString " and ").cps.toList:=λ_=>xz (by decide +kernel)
theorem Bd:∀ν,vl ν (lit "(if ")=(Str.ofString "(if ").cps.toList:=λ_=>xz (by decide +kernel)
theorem Bf:∀ν,vl ν (lit " then ")=(Str.ofString " then ").cps.toList:=λ_=>xz (by decide +kernel)
def Xz(K:W.Frag):Sp:=λvs H Q _=>∃(k:Int)(x y:Str)(p:Addr)(l:List Nat)(g:Say),vs=[.int k,.str x,.ref p]/\NmV x/\NmV y/\l∈allBad/\Tri K H p x y l g/\∀(p':Addr)(H':Hp),Same H H'->Uj K H' p'->Q (.ref p') H'
theorem sc_with:zm ["_law_way","_law_x","_law_told","_law_bad","_law_good","_law_due"] ["_law_way","_law_x","_law_told"] (zy (top 50)):=⟨rfl,rfl,rfl,by decide +kernel,rfl,by decide +kernel,by decide +kernel⟩
theorem Mf(D:Def K mg "_law_within" (top 50) ["_law_way","_law_x","_law_told"]):zh P w K mg base 1 "_law_within" ["_law_way","_law_x","_law_told"] (Xz K):=by
 refine D.callee sc_with (λvs H Q E h=>?_) λf cdv A outer s H vs Q E hr h=>?_
 ·obtain⟨k,x,y,p,l,g,rfl,_⟩:=h
  rfl
 have nd:=sc_with.nd;obtain⟨k,x,y,p,l,g,rfl,hx,hy,hl,⟨⟨bad,good,v,hp,hb,hg,hv⟩,HC,bA⟩,q⟩:=h;have JR:=uq hx;refine⟨[some (.int k),some (.str x),some (.ref p),none,none,none],_,rfl,(zz (Xp (z8 2) (Pi 3 4 5 rfl nd))
  (zz (za (zc (wb hr.units) (z8 0) zv (ze _)) (zx (zk (zd (z9 (z6 z5 z7 (z8 3)) (z9 (z6 z5 z7 (z8 4)) (z9 (yy (z9 z7 (z9 (z8 5) z4))) z4)))))) zi)
  (zz (za (zc (wb hr.units) (z8 0) zv (ze _)) (zx (zk (zd (z9 (z6 z5 (z6 z5 (z6 z5 (z6 z5 z7 (z8 3)) z7) (z8 1)) z7) (z9 (z6 z5 (z6 z5 (z6 z5 (z6 z5 z7 (z8 4)) z7) (z8 1)) z7) (z9 (yy (z9 z7 (z9 (z8 5) (z9 (yy (z9 z7 (z9 (z8 1) z4))) z4)))) z4)))))) zi)
  (zz (za (zc (wb hr.units) (z8 0) zv (ze _)) (zx (zk (zd (z9 (z6 z5 (z6 z5 (z6 z5 (z6 z5 z7 (z8 1)) z7) (z8 3)) z7) (z9 (z6 z5 (z6 z5 (z6 z5 (z6 z5 z7 (z8 1)) z7) (z8 4)) z7) (z9 (yy (z9 z7 (z9 (yy (z9 z7 (z9 (z8 1) z4))) (z9 (z8 5) z4)))) z4)))))) zi)
  (zz (za (zc (wb hr.units) (z8 0) zv (ze _)) (zx (zk (zd (z9 (z6 z5 (z6 z5 (z6 z5 (z6 z5 z7 (z8 3)) z7) (z8 1)) z7) (z9 (z6 z5 (z6 z5 (z6 z5 (z6 z5 z7 (z8 4)) z7) (z8 1)) z7) (z9 (yy (z9 z7 (z9 (z8 5) (z9 (yy (z9 z7 (z9 (z8 1) z4))) z4)))) z4)))))) zi)
  (zx (zk (z8 2)))))))),?_⟩
 walk_at"rp";refine⟨p,_,_,_,rfl,SqL.of hp,?_⟩;have EU:∀z∈g.letters,NmV z:=λz hz=>(bA z hz).elim (λe=>by rw[e];exact hx) λe=>by rw[e];exact hy
 have hb4:=ou (s:=bad) hx hy hl (c:=4) (by decide) hb;have hg4:=o6 hg (by lia) EU;have hbl:=hb4.1.len;have hgle:=hg4.1.len;have two:∀z∈g.letters++[x],NmV z:=λz hz=>(zK.mp hz).elim (EU z) λe=>by rw[zX.mp e];exact hx
 have two':∀z∈[x]++g.letters,NmV z:=λz hz=>(zK.mp hz).elim (λe=>by rw[zX.mp e];exact hx) (EU z);walk_at"rp";refine xi (λ_=>?_) λ_=>?_
 ·repeat(first|refine⟨by walk_at"sz",?_⟩)
  refine⟨zt (by simp),λd1 D1 CW lR pC=>⟨zt (by simp),λp1 H1 n1 s1 e1=>q p1 H1 (lR.trans s1) ⟨_,_,_,.neg g,e1,ou hx hy hl (c:=0) (by decide) ?_,o6 ?_ (by simp only[Say.pieces];lia) EU,⟨d1,v,rfl,SqT.of (s1 _ _ pC),hv.mono (zw (lR.trans s1))⟩,by simp only[Say.pieces];lia⟩⟩⟩
  ·simp only[We,uu,Be,yX,zP,hb]
  ·rw[si,yX,zP,hg]
   rfl
 walk_at"rp";refine xi (λ_=>?_) λ_=>?_
 ·repeat(first|refine⟨by walk_at"sz",?_⟩)
  refine⟨zt (by simp),λd1 D1 CW lR pC=>⟨zt (by simp),λd2 D2 EG kO qI=>⟨zt (by simp),λp1 H1 n1 s1 e1=>q p1 H1 (lR.trans (kO.trans s1)) ⟨_,_,_,.bin .dis g (.letter x),e1,ou hx hy hl (c:=1) (by decide) ?_,o6 ?_ (by simp only[Say.pieces];lia) two,⟨d2,v,_,rfl,SqT.of (s1 _ _ qI),hv.mono (zw (lR.trans (kO.trans s1))),⟨d1,rfl,SqT.of ((kO.trans s1) _ _ pC)⟩⟩,by simp only[Say.pieces];lia⟩⟩⟩⟩
  ·simp only[We,uu,Hj,C4,Lp,lm,yX,zP,zJ,hb]
  ·rw[lf];simp only[yX,zP,zJ,hg]
   rfl
 walk_at"rp";refine xi (λ_=>?_) λ_=>?_
 ·repeat(first|refine⟨by walk_at"sz",?_⟩)
  refine⟨zt (by simp),λd1 D1 CW lR pC=>⟨zt (by simp),λd2 D2 EG kO qI=>⟨zt (by simp),λp1 H1 n1 s1 e1=>q p1 H1 (lR.trans (kO.trans s1)) ⟨_,_,_,.bin .con (.letter x) g,e1,ou hx hy hl (c:=2) (by decide) ?_,o6 ?_ (by simp only[Say.pieces];lia) two',⟨d2,_,v,rfl,SqT.of (s1 _ _ qI),⟨d1,rfl,SqT.of ((kO.trans s1) _ _ pC)⟩,hv.mono (zw (lR.trans (kO.trans s1)))⟩,by simp only[Say.pieces];lia⟩⟩⟩⟩
  ·simp only[We,uu,Hj,Bc,Lp,lm,yX,zP,zJ,hb]
  ·rw[lc];simp only[yX,zP,zJ,hg]
   rfl
 walk_at"rp";refine xi (λ_=>?_) λ_=>?_
 ·repeat(first|refine⟨by walk_at"sz",?_⟩)
  refine⟨zt (by simp),λd1 D1 CW lR pC=>⟨zt (by simp),λd2 D2 EG kO qI=>⟨zt (by simp),λp1 H1 n1 s1 e1=>q p1 H1 (lR.trans (kO.trans s1)) ⟨_,_,_,.bin .imp g (.letter x),e1,ou hx hy hl (c:=3) (by decide) ?_,o6 ?_ (by simp only[Say.pieces];lia) two,⟨d2,v,_,rfl,SqT.of (s1 _ _ qI),hv.mono (zw (lR.trans (kO.trans s1))),⟨d1,rfl,SqT.of ((kO.trans s1) _ _ pC)⟩⟩,by simp only[Say.pieces];lia⟩⟩⟩⟩
  ·simp only[We,uu,Bd,Bf,Lp,lm,yX,zP,zJ,hb]
  ·rw[lg];simp only[yX,zP,zJ,hg]
   rfl
 walk_at"rp";exact q p H (Same.refl _) ⟨bad,good,v,g,hp,hb4,hg4,hv,by lia⟩
def Q8(K:W.Frag):Sp:=λvs H Q _=>∃(a:Addr)(ns:List Int)(k:Int)(x y:Str),vs=[.ref a,.int k,.str x,.str y]/\SqL K H a (ns.map V.int)/\ns.length<=5000/\0<=k/\k<=1000/\NmV x/\NmV y/\∀(p':Addr)(H':Hp),Same H H'->Uj K H' p'->Q (.ref p') H'
theorem sc_pair:zm ["_law_script","_law_k","_law_x","_law_y","_law_way","_law_kind","_law_told"] ["_law_script","_law_k","_law_x","_law_y"] (zy (top 51)):=⟨rfl,rfl,rfl,by decide +kernel,rfl,by decide +kernel,by decide +kernel⟩
theorem L9(D:Def K mg "_law_pair" (top 51) ["_law_script","_law_k","_law_x","_law_y"])(aP:zh P w K mg base 2 "_law_pick" ["_law_script","_law_k","_law_many"] (k6 K))(oB:zh P w K mg base 1 "_law_by_size" ["_law_way","_law_x"] (Rc K))(oC:zh P w K mg base 1 "_law_by_name" ["_law_way","_law_x"] (K0 K))(nI:zh P w K mg base 1 "_law_by_blank" ["_law_way","_law_x","_law_y"] (Ni K))(qO:zh P w K mg base 1 "_law_by_if" ["_law_way","_law_x","_law_y"] (Ni K))(pI:zh P w K mg base 1 "_law_within" ["_law_way","_law_x","_law_told"] (Xz K)):zh P w K mg base 3 "_law_pair" ["_law_script","_law_k","_law_x","_law_y"] (Q8 K):=by
 refine D.callee sc_pair (λvs H Q E h=>?_) λf cdv A outer s H vs Q E hr h=>?_
 ·obtain⟨a,ns,k,x,y,rfl,_⟩:=h
  rfl
 have nd:=sc_pair.nd;obtain⟨a,ns,k,x,y,rfl,hS,pA,k0,k1,hx,hy,q⟩:=h;refine⟨[some (.ref a),some (.int k),some (.str x),some (.str y),none,none,none],_,rfl,(zz (zn 4 nd (zg aP hr (by lia) (z9 (z8 0) (z9 (z8 1) (z9 zv z4)))))
  (zz (zn 5 nd (zg aP hr (by lia) (z9 (z8 0) (z9 (z6 z5 (z8 1) zv) (z9 zv z4)))))
  (zz (za (zc (wb hr.units) (z8 5) zv (ze _)) (zx (zk (zg oB hr (by lia) (z9 (z8 4) (z9 (z8 2) z4))))) zi)
  (zz (zn 6 nd (zg oC hr (by lia) (z9 (z8 4) (z9 (z8 2) z4))))
  (zz (za (zc S6 (z8 5) zv (ze _)) (zx (zn 6 nd (zg nI hr (by lia) (z9 (z8 4) (z9 (z8 2) (z9 (z8 3) z4)))))) (zx (za (zc (wb hr.units) (z8 5) zv (ze _)) (zx (zn 6 nd (zg qO hr (by lia) (z9 (z8 4) (z9 (z8 2) (z9 (z8 3) z4)))))) zi)))
  (zx (zk (zg pI hr (by lia) (z9 (zg aP hr (by lia) (z9 (z8 0) (z9 (z6 z5 (z8 1) zv) (z9 zv z4)))) (z9 (z8 2) (z9 (z8 6) z4))))))))))),?_⟩
 walk_at"rp";refine⟨a,ns,_,_,rfl,hS,pA,by lia,by lia,by decide,λwy w0 w1=>?_⟩;walk_at"rp";refine⟨a,ns,_,_,rfl,hS,pA,by lia,by lia,by decide,λkd kd0 kd1=>?_⟩;walk_at"rp";refine xi (λ_=>?_) λ_=>?_
 ·exact⟨wy,x,rfl,hx,λp H1 s1 h1=>q p H1 s1 h1⟩
 walk_at"rp";refine⟨wy,x,y,rfl,hx,hy,λp1 H1 l1 g1 s1 m1 t1=>?_⟩;have cJ:∀{p2:Addr}{H2:Hp}{l:List Nat}{g:Say}{σ:St},σ=[some (.ref a),some (.int k),some (.str x),some (.str y),some (.int wy),some (.int kd),some (.ref p2)]->Same H H2->l∈allBad->Tri K H2 p2 x y l g->J4 (dn (Xz K) [] E0 (np (dn (k6 K) [] E0 (np (mV 0) (np (tOp (Pa K) (mV 1) (tC (.int 2))) (np (tC (.int 7)) T8)))) (np (mV 2) (np (mV 6) T8)))) { nx:=λx H'=>Q V.non H',rt:=Q } σ H2:=by
  rintro p2 H2 l g σ rfl s2 hm ht;walk_at"rp";refine⟨a,ns,_,_,rfl,s2.seq hS,pA,by lia,by lia,by decide,λc c0 c1=>?_⟩;walk_at"rp";exact⟨c,x,y,p2,l,g,rfl,hx,hy,hm,ht,λp' H' s' h'=>q p' H' (s2.trans s') h'⟩
 walk_at"rp";refine xi (λ_=>?_) λ_=>?_
 ·walk_at"rp";refine⟨wy,x,y,rfl,hx,hy,λp2 H2 l2 g2 s2 m2 t2=>?_⟩;exact cJ rfl (s1.trans s2) m2 t2
 walk_at"rp";refine xi (λ_=>?_) λ_=>?_
 ·walk_at"rp";refine⟨wy,x,y,rfl,hx,hy,λp2 H2 l2 g2 s2 m2 t2=>?_⟩;exact cJ rfl (s1.trans s2) m2 t2
 exact cJ rfl s1 m1 t1
local macro_rules|`(tactic| walk_at "sz")=>`(tactic| (refine szt ?_;(try simp only[yo,Wn,Wo,Wp,Wq,Wr,Ws,Wt,Wu,Wv,Ww,ge,gf,gg,gh,gj,gk,gl,gm,gn,gp,gq,gr,gu,gw,gx,gy,g0,g6,g9,ia,ib,ie,ig,ij,ik,il,im,io,ip,iq,ir,iu,iw,iz,i0,i3,i4,i5,i6,i7,i8,i9,jb,jc,jd,je,jf,jg,jh,ji,jj,jk,jm,jn,jo,jq,jr,js,jt,ju,jw,jx,jy,jz,j4,j5]);lia))
def xx:List Nat->List (List Nat)
 |[]=>[[]]
 |n::l=>if n=10 then[]::xx l else match xx l with
  |[]=>[[n]]
  |h::t=>(n::h)::t
theorem Rg:∀l:List Nat,xx l≠[]
 |[]=>by simp[xx]
 |n::l=>by
  rw[xx];split
  ·simp
  ·split<;>simp
theorem Zk:∀(l:List Nat),∀m∈xx l,10∉m
 |[],m,hm=>by
  rw[xx]at hm;rw[zX.mp hm];simp
 |n::l,m,hm=>by
  rw[xx]at hm;have ih:=Zk l;split at hm
  ·rcases zL.mp hm with e|e
   ·rw[e];simp
   ·exact ih m e
  ·rename_i hn;split at hm
   ·rw[zX.mp hm];exact λz=>hn (zX.mp z).symm
   ·rename_i h t e;rcases zL.mp hm with e2|e2
    ·rw[e2];intro z;rcases zL.mp z with z|z
     ·exact hn z.symm
     ·exact ih h (by rw[e];exact zD) z
    ·exact ih m (by rw[e];exact zO _ e2)
section
variable {ν:Bool->Str}
def lnS(ν:Bool->Str)(m:List Nat):Str:=⟨(vl ν m).toArray⟩
theorem o8(m:List Nat):(lnS ν m).cps.toList=vl ν m:=by unfold lnS;simp
theorem l0{y:List Nat}{p:List Nat}{ps:List (List Nat)}(h:ps≠[]):jl y (p::ps)=p++(y++jl y ps):=by
 cases ps with
 |nil=>exact absurd rfl h
 |cons q ps=>simp[jl]
theorem Rf:∀l:List Nat,vl ν l=jl [10] ((xx l).map (vl ν))
 |[]=>by simp[xx,jl,ll]
 |n::l=>by
  have ih:=Rf l;have iF:=Rg l;rw[yd,xx];split
  ·rename_i hn;subst hn;rw[List.map_cons,l0 (by simpa using iF),<-ih,ll,qj (by decide +kernel)]
   rfl
  ·split
   ·rename_i e;exact absurd e iF
   ·rename_i h t e;rw[e]at ih;rw[List.map_cons]at ih ⊢;cases t with
    |nil =>
     rw[ih,List.map_nil];simp[jl,yd]
    |cons q t =>
     rw[l0 (by simp)]at ih ⊢;rw[ih,yd,zJ]
theorem Nx(hν:∀b,NmV (ν b)){m:List Nat}(h:10∉m):10∉vl ν m:=λhc=>by
 obtain⟨n,hn,hc⟩:=List.mem_flatMap.mp hc;cases hi:isN n with
 |false =>
  rw[qj hi]at hc;rw[zX.mp hc]at h;exact h hn
 |true =>
  obtain⟨b,eb⟩:=ka (ν:=ν) hi;rw[eb]at hc;have:=sg ((hν b).2 10 hc);lia
theorem Zl(hν:∀b,NmV (ν b)){s:Str}{l:List Nat}(h:s.cps.toList=vl ν l):Txt.split s (Str.ofString "\n")=(xx l).map (lnS ν):=by
 cases e:xx l with
 |nil=>exact absurd e (Rg l)
 |cons p ps =>
  have hj:s=Txt.join (Str.ofString "\n") (lnS ν p::ps.map (lnS ν)):=by
   refine Str.ext' (xE.mp ?_);show _=(PySem.Builtin.Str.glued _ _).cps.toList;rw[vW,qw,h,Rf l,e,show(Str.ofString "\n").cps.toList=[10]by decide +kernel];simp only[List.map_cons,xT,o8]
   congr 2
  rw[hj,List.map_cons];refine k7 (Str.ofString "\n") 10 [] (by decide +kernel) (by decide +kernel) _ _ λq hq=>?_;obtain⟨m,hm,rfl⟩:∃m∈xx l,q=lnS ν m:=by
   rcases zL.mp hq with z|z
   ·exact⟨p,by rw[e];exact zD,z⟩
   ·obtain⟨m,hm,rfl⟩:=yW.mp z;exact⟨m,by rw[e];exact zO _ hm,rfl⟩
  rw[o8];exact Nx hν (Zk l m hm)
def Tt(l:List Nat)(m:Nat):Option Bool:=match ai (lit "judge ") l with
 |none=>none
 |some none=>some false
 |some (some l1)=>if l1.any isN=true then none else some (decide (l1.length=m)&&l1.all yn)
def eh:List (List Nat)->Nat->Nat->Bool
 |[],n,k=>decide (n=0)||decide (k=0)
 |l::ls,n,k=>match ai (lit "say ") l with
  |none=>false
  |some (some l1)=>if k=0 then Oa l1||eh ls (n+1) 0 else(match Tt l n with
   |none=>false
   |some false=>true
   |some true=>eh ls n (k+1))
  |some none=>match Tt l n with
   |none=>false
   |some false=>true
   |some true=>eh ls n (k+1)
theorem Mv(hν:∀b,NmV (ν b)){l:List Nat}{m:Nat}(h:Tt l m=some false):eo (vl ν l) m=none:=by
 unfold Tt at h;unfold eo;cases e:ai (lit "judge ") l with
 |none=>rw[e]at h;cases h
 |some o =>
  have hq:=md hν e;rw[e]at h;cases o with
  |none =>
   rw[zM];rintro⟨h1,_⟩;unfold nx at h1;rw[wL,hq.1 rfl]at h1;cases h1
  |some l1 =>
   have h2:=hq.2 l1 rfl;dsimp only at h;split at h
   ·cases h
   ·rename_i hn;have CP:l1.any isN=false:=by cases hb:l1.any isN with|false=>rfl|true=>exact absurd hb hn
    rw[xz CP]at h2;rw[h2,show(lit "judge "++l1).drop 6=l1 by rw[qx];rfl,zM];rintro⟨_,h3,h4⟩;rw[h3,h4,zI rfl]at h;cases h
theorem ah(hν:∀b,NmV (ν b)):∀(ls:List (List Nat))(n k:Nat)(ts:List Say)(ks:List (List Bool)),eh ls n k=true->ts.length=n->ks.length=k->∀r,yl (ls.map (lnS ν)) ts ks=some r->r.1=[]\/r.2=[]
 |[],n,k,ts,ks,h,h1,h2,r,hr=>by
  rw[List.map_nil,yl]at hr;cases hr;rw[eh,vA]at h;rcases h with h|h
  ·exact .inl (vI (h1.trans (zF h)))
  ·exact .inr (vI (h2.trans (zF h)))
 |l::ls,n,k,ts,ks,h,h1,h2,r,hr=>by
  rw[List.map_cons,yl,o8]at hr;rw[eh]at h;have row:(match Tt l n with|none=>false|some false=>true|some true=>eh ls n (k+1))=true->(match eo (vl ν l) ts.length with|some k=>yl (ls.map (lnS ν)) ts (ks++[k])|none=>none)=some r->r.1=[]\/r.2=[]:=λhq hr=>by
   cases e:Tt l n with
   |none=>rw[e]at hq;cases hq
   |some b =>
    cases b with
    |false=>rw[h1,Mv hν e]at hr;cases hr
    |true =>
     rw[e]at hq;cases e2:eo (vl ν l) ts.length with
     |none=>rw[e2]at hr;cases hr
     |some k' =>
      rw[e2]at hr;exact ah hν ls n (k+1) ts (ks++[k']) hq h1 (by rw[zE,h2];rfl) r hr
  cases e:ai (lit "say ") l with
  |none=>rw[e]at h;cases h
  |some o =>
   have hq:=md hν e;rw[e]at h;cases o with
   |none =>
    rw[zM (by rintro⟨h3,_⟩;unfold nx at h3;rw[wL,hq.1 rfl]at h3;cases h3)]at hr;exact row h hr
   |some l1 =>
    have h3:=hq.2 l1 rfl;dsimp only at h
    by_cases hk:k=0
    ·rw[zG hk]at h;have hks:ks=[]:=vI (h2.trans hk);rw[zG ⟨xk (by rw[wL];exact h3),hks⟩,h3,show(lit "say "++vl ν l1).drop 4=vl ν l1 by rw[l9];rfl]at hr;rw[vA]at h;cases e2:sm (vl ν l1)with
     |none=>rw[e2]at hr;cases hr
     |some t =>
      rw[e2]at hr;rcases h with h|h
      ·rw[kj hν h]at e2;cases e2
      ·exact ah hν ls (n+1) 0 (ts++[t]) ks h (by rw[zE,h1];rfl) (h2.trans hk) r hr
    ·rw[zM hk]at h;have hks:ks≠[]:=λz=>hk (by rw[<-h2,z];rfl);rw[zM (by rintro⟨_,z⟩;exact hks z)]at hr;exact row h hr
def Ki(l:List Nat):Bool:=okL l&&(decide ((xx l).length<=100)&&((xx l).all okL&&eh (xx l) 0 0))
theorem O6:(lineT.all λt=>Ki (fc sy0 t))=true:=by decide +kernel
theorem cu(hν:∀b,NmV (ν b)){l:List Nat}(h:eh (xx l) 0 0=true):sf ((xx l).map (lnS ν))=none:=by
 unfold sf;cases e:yl ((xx l).map (lnS ν)) [] []with
 |none=>rfl
 |some r =>
  obtain⟨ts,ks⟩:=r;dsimp only;rw[zG (ah hν _ 0 0 [] [] h rfl rfl _ e)]
end
local macro_rules|`(tactic| walk_at "sz")=>`(tactic| (refine szt ?_;(try simp only[yo,Wn,Wo,Wp,Wq,Wr,Ws,Wt,Wu,Wv,Ww,ge,gf,gg,gh,gj,gk,gl,gm,gn,gp,gq,gr,gu,gw,gx,gy,g0,g6,g9,ia,ib,ie,ig,ij,ik,il,im,io,ip,iq,ir,iu,iw,iz,i0,i3,i4,i5,i6,i7,i8,i9,jb,jc,jd,je,jf,jg,jh,ji,jj,jk,jm,jn,jo,jq,jr,js,jt,ju,jw,jx,jy,jz,j4,j5]);lia))
def Vp(K:W.Frag):Sp:=λvs H Q _=>∃(k:Int)(x y:Str),vs=[.int k,.str x,.str y]/\NmV x/\NmV y/\∀(p:Addr)(H':Hp)(bad:Str)(t:List Tk),Same H H'->H' p=some (.lst [.str bad,.str (rho x y 6)])->t∈lineT->bad=qm (rho x y) t->Q (.ref p) H'
theorem sc_bylines:zm ["_law_way","_law_x","_law_y","_law_one","_law_two","_law_a","_law_good","_law_some"] ["_law_way","_law_x","_law_y"] (zy (top 52)):=⟨rfl,rfl,rfl,by decide +kernel,rfl,by decide +kernel,by decide +kernel⟩
theorem Xg(D:Def K mg "_law_by_lines" (top 52) ["_law_way","_law_x","_law_y"])(aD:mg "len"=none):zh P w K mg base 1 "_law_by_lines" ["_law_way","_law_x","_law_y"] (Vp K):=by
 refine D.callee sc_bylines (λvs H Q E h=>?_) λf cdv A outer s H vs Q E hr h=>?_
 ·obtain⟨k,x,y,rfl,_⟩:=h
  rfl
 have nd:=sc_bylines.nd;obtain⟨k,x,y,rfl,hx,hy,q⟩:=h;have JR:=uq hx;have JQ:=uq hy;refine⟨[some (.int k),some (.str x),some (.str y),none,none,none,none,none],_,rfl,(zz (zn 3 nd (z6 z5 z7 (z8 1)))
  (zz (zn 4 nd (z6 z5 z7 (z8 2)))
  (zz (zn 5 nd z7)
  (zz (zn 6 nd (z6 z5 (z6 z5 (z6 z5 (z6 z5 (z8 3) z7) (z8 4)) z7) (z8 5)))
  (zz (zn 7 nd (zd (z9 (z6 z5 (z6 z5 (z8 3) z7) (z8 4)) (z9 (z8 5) (z9 z7 (z9 (z6 z5 (z8 6) z7) (z9 (z6 z5 z7 (z8 6)) (z9 (z6 z5 (z6 z5 (z6 z5 (z6 z5 (z8 3) z7) (z8 4)) z7) (z8 5)) z4))))))))
  (zz (zn 7 nd (z6 z5 (z8 7) (zd (z9 (z6 z5 (z6 z5 (z6 z5 (z6 z5 (z8 3) z7) (z8 5)) z7) (z8 4)) z4))))
  (zz (zn 7 nd (z6 z5 (z8 7) (zd (z9 (z6 z5 (z6 z5 (z6 z5 (z6 z5 (z8 5) z7) (z8 3)) z7) (z8 4)) (z9 (z6 z5 (z8 6) z7) (z9 (z6 z5 z7 (z8 6)) (z9 (z6 z5 (z6 z5 (z6 z5 (z6 z5 (z6 z5 (z8 3) z7) (z8 4)) z7) (z8 5)) z7) z4)))))))
  (zz (zn 7 nd (z6 z5 (z8 7) (zd (z9 (z6 z5 (z6 z5 (z6 z5 (z8 3) z7) (z8 4)) z7) (z9 (z6 z5 (z6 z5 (z6 z5 (z8 3) z7) (z8 4)) z7) (z9 (z6 z5 (z6 z5 (z6 z5 (z8 3) z7) (z8 4)) z7) z4))))))
  (zz (zn 7 nd (z6 z5 (z8 7) (zd (z9 (z6 z5 (z6 z5 (z6 z5 (z8 3) z7) (z8 4)) z7) (z9 (z6 z5 (z6 z5 (z6 z5 (z8 3) z7) (z8 4)) z7) (z9 (z6 z5 (z6 z5 (z6 z5 (z8 3) z7) (z8 4)) z7) z4))))))
  (zz (zn 7 nd (z6 z5 (z8 7) (zd (z9 (z6 z5 (z6 z5 (z6 z5 (z8 3) z7) (z8 4)) z7) (z9 (z6 z5 (z6 z5 (z6 z5 (z6 z5 (z8 3) z7) (z8 2)) z7) (z8 5)) (z9 (z6 z5 (z6 z5 (z6 z5 (z6 z5 (z8 3) z7) (z8 2)) z7) (z8 5)) z4))))))
  (zz (zn 7 nd (z6 z5 (z8 7) (zd (z9 (z6 z5 (z6 z5 (z6 z5 (z6 z5 (z6 z5 z7 (z8 1)) z7) (z8 4)) z7) (z8 5)) (z9 (z6 z5 (z6 z5 (z6 z5 z7 (z8 4)) z7) (z8 5)) (z9 (z6 z5 (z6 z5 (z6 z5 (z6 z5 (z8 3) z7) (z8 4)) z7) (z8 5)) z4))))))
  (zz (zn 7 nd (z6 z5 (z8 7) (zd (z9 (z6 z5 (z6 z5 (z6 z5 (z6 z5 (z6 z5 (z6 z5 (z8 3) z7) (z8 4)) z7) (z8 5)) z7) (z8 5)) (z9 (z6 z5 (z6 z5 (z6 z5 (z6 z5 (z6 z5 (z6 z5 (z6 z5 (z6 z5 (z8 3) z7) (z8 4)) z7) (z8 5)) z7) (z8 5)) z7) (z8 5)) z4)))))
  (zz (zn 7 nd (z6 z5 (z8 7) (zd (z9 (z6 z5 (z6 z5 (z6 z5 (z6 z5 (z6 z5 z7 (z8 1)) z7) (z8 4)) z7) (z8 5)) (z9 (z6 z5 (z6 z5 (z6 z5 (z6 z5 (z6 z5 (z6 z5 z7 (z6 pw z7 zv)) (z8 1)) z7) (z8 4)) z7) (z8 5)) z4)))))
  (zx (zk (zd (z9 (vy (z8 7) (z6 vk (z8 0) (zq ya rfl aD yp (z9 (z8 7) z4))) (λ_ _=>rfl)) (z9 (z8 6) z4)))))))))))))))))),?_⟩
 walk_at"rp"
 repeat(first|refine⟨by walk_at"sz",?_⟩|refine⟨zt (by simp),?_⟩)
 walk_at"rp"
 repeat(first|refine⟨by walk_at"sz",?_⟩|refine⟨zt (by simp),?_⟩)
 walk_at"rp"
 repeat(first|refine⟨by walk_at"sz",?_⟩|refine⟨zt (by simp),?_⟩)
 walk_at"rp"
 repeat(first|refine⟨by walk_at"sz",?_⟩|refine⟨zt (by simp),?_⟩)
 intro p1 H1 n1 s1 e1;have u1:=s1;walk_at"rp"
 repeat(first|refine⟨by walk_at"sz",?_⟩|refine⟨zt (by simp),?_⟩)
 intro q2 G2 m2 t2 f2;refine .inl ⟨_,_,t2 _ _ e1,f2,zt (by simp),λp2 H2 n2 s2 e2=>?_⟩;have u2:=u1.trans (t2.trans s2);walk_at"rp"
 repeat(first|refine⟨by walk_at"sz",?_⟩|refine⟨zt (by simp),?_⟩)
 intro q3 G3 m3 t3 f3;refine .inl ⟨_,_,t3 _ _ e2,f3,zt (by simp),λp3 H3 n3 s3 e3=>?_⟩;have u3:=u2.trans (t3.trans s3);walk_at"rp"
 repeat(first|refine⟨by walk_at"sz",?_⟩|refine⟨zt (by simp),?_⟩)
 intro q4 G4 m4 t4 f4;refine .inl ⟨_,_,t4 _ _ e3,f4,zt (by simp),λp4 H4 n4 s4 e4=>?_⟩;have u4:=u3.trans (t4.trans s4);walk_at"rp"
 repeat(first|refine⟨by walk_at"sz",?_⟩|refine⟨zt (by simp),?_⟩)
 intro q5 G5 m5 t5 f5;refine .inl ⟨_,_,t5 _ _ e4,f5,zt (by simp),λp5 H5 n5 s5 e5=>?_⟩;have u5:=u4.trans (t5.trans s5);walk_at"rp"
 repeat(first|refine⟨by walk_at"sz",?_⟩|refine⟨zt (by simp),?_⟩)
 intro q6 G6 m6 t6 f6;refine .inl ⟨_,_,t6 _ _ e5,f6,zt (by simp),λp6 H6 n6 s6 e6=>?_⟩;have u6:=u5.trans (t6.trans s6);walk_at"rp"
 repeat(first|refine⟨by walk_at"sz",?_⟩|refine⟨zt (by simp),?_⟩)
 intro q7 G7 m7 t7 f7;refine .inl ⟨_,_,t7 _ _ e6,f7,zt (by simp),λp7 H7 n7 s7 e7=>?_⟩;have u7:=u6.trans (t7.trans s7);walk_at"rp"
 repeat(first|refine⟨by walk_at"sz",?_⟩|refine⟨zt (by simp),?_⟩)
 intro q8 G8 m8 t8 f8;refine .inl ⟨_,_,t8 _ _ e7,f8,zt (by simp),λp8 H8 n8 s8 e8=>?_⟩;have u8:=u7.trans (t8.trans s8);have hml:=Ks;walk_at"rp"
 repeat(first|refine⟨by walk_at"sz",?_⟩|refine⟨zt (by simp),?_⟩)
 refine⟨_,_,rfl,rfl,W5 40 (by decide) (by decide),?_⟩
 repeat(first|refine⟨by walk_at"sz",?_⟩|refine⟨zt (by simp),?_⟩)
 intro q9 G9 m9 t9 f9;refine .inl ⟨_,_,t9 _ _ e8,f9,zt (by simp),λp9 H9 n9 s9 e9=>?_⟩;have u9:=u8.trans (t9.trans s9);walk_at"rp";obtain⟨v,hv,ev⟩:=tf (xs:=lineT.map λt=>V.str (qm (rho x y) t)) (k:=k % ((lineT.map λt=>V.str (qm (rho x y) t)).length:Int)) (wP _ (by rw[zV];decide)) (wZ _ (by rw[zV];decide));obtain⟨t,ht,rfl⟩:=yW.mp hv;have e9':H9 p9=some (.lst (lineT.map λt=>V.str (qm (rho x y) t))):=e9;refine⟨_,.inl (SqL.of e9'),by rw[zV];decide,_,_,.inl (SqL.of e9'),ev,zt (by simp),λp10 DL n10 ED e10=>q p10 DL _ t (u9.trans ED) e10 ht rfl⟩
local macro_rules|`(tactic| walk_at "sz")=>`(tactic| (refine szt ?_;(try simp only[yo,Wn,Wo,Wp,Wq,Wr,Ws,Wt,Wu,Wv,Ww,ge,gf,gg,gh,gj,gk,gl,gm,gn,gp,gq,gr,gu,gw,gx,gy,g0,g6,g9,ia,ib,ie,ig,ij,ik,il,im,io,ip,iq,ir,iu,iw,iz,i0,i3,i4,i5,i6,i7,i8,i9,jb,jc,jd,je,jf,jg,jh,ji,jj,jk,jm,jn,jo,jq,jr,js,jt,ju,jw,jx,jy,jz,j4,j5]);lia))
theorem gd{H:Hp}{x y:Str}(hx:NmV x)(hy:NmV y){t:List Tk}(ht:t∈lineT):N6 K H (.str (qm (rho x y) t)) true:=by
 have hk:T9 t=true:=yS.mp bc t (zQ _ (zQ _ (zQ _ ht)));have hs:=mi (al x y) hk;have hb:=yS.mp O6 t ht;unfold Ki at hb;rw[yY,yY,yY]at hb;have oK:=Zl (nc hx hy) hs;refine .inr ⟨_,rfl,X6 hx hy hs hb.1,(λz=>by cases z),λ_=>⟨λl hl=>?_,?_,?_⟩⟩
 ·rw[oK]at hl;obtain⟨m,hm,rfl⟩:=yW.mp hl;exact X6 hx hy (o8 m) (yS.mp hb.2.2.1 m hm)
 ·rw[oK,zV];have:=zF hb.2.1;lia
 ·rw[oK];exact cu (nc hx hy) hb.2.2.2
theorem bu(S:Str->Bool):∀ss:List Str,∃n:Nat,n<2 ^ ss.length/\yb (n:Int) ss=ss.filter S
 |[]=>⟨0,by simp,rfl⟩
 |x::r=>by
  obtain⟨n,hn,e⟩:=bu S r;cases hx:S x with
  |true =>
   refine⟨2*n+1,by rw[yL,Nat.pow_succ];lia,?_⟩;rw[yb,zG (by lia),List.filter_cons_of_pos hx,<-e]
   congr 2
   lia
  |false =>
   refine⟨2*n,by rw[yL,Nat.pow_succ];lia,?_⟩;rw[yb,zM (by lia),List.filter_cons_of_neg (by rw[hx];exact zH),<-e]
   congr 1
   lia
theorem M3{Cn Co Cr Ce:Addr}{ts:List Say}{ks:List (List Bool)}{xs:List Str}{H:Hp}{Q:VK}{E:XK}{vd:Vd}(hW:WrT ts ks)(hL:V1 ts xs)(hV:K8 ts xs ks vd)(h:Kg K Co Cr Ce ts ks H Q E vd):a9 K Cn Co Cr Ce [.str (oo ts ks)] H Q E:=by
 have hs:=Zr hW;have hr:=Xr hW.say hW.row (λz=>by have:=hW.lo;rw[z,wH]at this;lia) (λz=>by have:=hW.jlo;rw[z,wH]at this;lia);refine⟨_,rfl,.inr ⟨_,rfl,Uf hW,by rw[hs];exact S3 hW,by rw[hs,nz];have:=hW.hi;have:=hW.jhi;lia,λz=>?_,λts' ks' e=>?_⟩⟩
 ·rw[hs,hr]at z;cases z
 ·rw[hs,hr]at e;cases e;exact⟨vd,xs,hL,hV,h⟩
def fe(x y:Str):List Say:=[.letter x,.neg (.letter y)]
theorem Rr{x y:Str}(hx:NmV x)(hy:NmV y):WrT (fe x y) [[true,false]]:=by
 refine⟨λt ht=>?_,λk hk=>by rw[zX.mp hk];rfl,show 1<=2 by decide,show 2<=6 by decide,show 1<=1 by decide,show 1<=21 by decide⟩;rcases zL.mp ht with e|e
 ·rw[e];exact⟨by simp[Say.pieces],λz hz=>by rw[zX.mp hz];exact hx⟩
 ·rw[zX.mp e];exact⟨by simp[Say.pieces],λz hz=>by rw[zX.mp hz];exact hy⟩
theorem Nu{x y z:Str}(h:z∈rk (fe x y)):z∈[x,y]:=by
 obtain⟨t,ht,hz⟩:=mem_allL.mp h;rcases zL.mp ht with e|e
 ·rw[e]at hz;rw[zX.mp hz];simp
 ·rw[zX.mp e]at hz;rw[zX.mp hz];simp
theorem Nr{x y:Str}(hx:NmV x)(hy:NmV y):Lst (fe x y) [x,y]:=by
 refine⟨show 1<=2 by decide,show 2<=6 by decide,λt ht=>((Rr hx hy).say t ht).1,λz hz=>Nu hz,show 2<=5 by decide,λz hz=>?_⟩;rcases zL.mp hz with e|e
 ·rw[e];exact kc hx
 ·rw[zX.mp e];exact kc hy
theorem J9{x y:Str}(hL:Lst (fe x y) [x,y]):K8 (fe x y) [x,y] [[true,false]] .ok:=by
 refine⟨⟨hL,by decide,by decide⟩,λss R hN hF k hk=>?_,by decide⟩;rw[zX.mp hk];obtain⟨n,hn,e⟩:=bu (λ_=>true) ss;have e':yb (n:Int) ss=ss:=by rw[e];simp
 refine(hF.2.1 _).mpr ⟨n,hn,?_⟩;rw[e'];have mx:∀z,z∈[x,y]->(ss.any λu=>u==z)=true:=λz hz=>by
  refine wX.mpr ⟨z,(hN.2.1 z).mpr ?_,uJ _⟩;rcases zL.mp hz with e|e
  ·exact mem_allL.mpr ⟨.letter x,by simp[fe],by rw[e];simp[Say.letters]⟩
  ·exact mem_allL.mpr ⟨.neg (.letter y),by simp[fe],by rw[zX.mp e];simp[Say.letters]⟩
 show[true,false]=[(ss.any λu=>u==x),!(ss.any λu=>u==y)]
 rw[mx x (by simp),mx y (by simp)]
 rfl
theorem M8:lit "say not "=lit "say "++lit "not ":=by decide +kernel
theorem Oz:lit "judge yn"=lit "judge "++[121,110]:=by decide +kernel
theorem Tx(x y:Str):rho x y 6=oo (fe x y) [[true,false]]:=by
 refine Str.ext' (xE.mp ?_);have h1:(rho x y 6).cps.toList=lit "say "++(x.cps.toList++([10]++(lit "say not "++(y.cps.toList++([10]++lit "judge yn"))))):=by
  unfold rho;simp only[yX,zP,zJ];rw[show(Str.ofString "\n").cps.toList=[10]by decide +kernel]
  rfl
 rw[h1];show _=(PySem.Builtin.Str.glued _ _).cps.toList;rw[vW,qw,show(Str.ofString "\n").cps.toList=[10]by decide +kernel,show wz (fe x y) [[true,false]]=[am (.letter x),am (.neg (.letter y)),um [true,false]]from rfl];simp only[List.map_cons,List.map_nil,mf,ui];rw[l0 (by simp),l0 (by simp),si,M8,Oz];simp only[jl,zJ]
 rfl
def dk(l:List Nat):Bool:=!l.any isN&&(decide (l.length<=4000)&&(l.all (λn=>decide (n<4000000))&&(Oa l&&(decide ((xx l).length<=100)&&((xx l).all (λm=>decide (m.length<=4000)&&(m.all (λn=>decide (n<4000000))&&!m.any isN))&&eh (xx l) 0 0)))))
theorem Vz{s:Str}{l:List Nat}(h:s.cps.toList=l)(h1:l.length<=4000)(h2:l.all (λn=>decide (n<4000000))=true):xf s:=by
 have h3:=ym s;rw[h]at h3;refine⟨by lia,λc hc=>?_⟩;rw[h]at hc;have:=zF (yS.mp h2 c hc);lia
theorem Kt{b:Bool}(h:(!b)=true):b=false:=by cases b<;>first|rfl|cases h
theorem qp{H:Hp}{x y s:Str}{l:List Nat}{c:Bool}(hx:NmV x)(hy:NmV y)(h:s.cps.toList=l)(hd:dk l=true):N6 K H (.str s) c:=by
 unfold dk at hd;simp only[yY]at hd;obtain⟨d1,d2,d3,d4,d5,d6,d7⟩:=hd;have hv:s.cps.toList=vl (nu x y) l:=by rw[h,xz (Kt d1)]
 have oK:=Zl (nc hx hy) hv;refine .inr ⟨s,rfl,Vz h (zF d2) d3,λ_=>by rw[hv];exact kj (nc hx hy) d4,λ_=>⟨λm hm=>?_,?_,?_⟩⟩
 ·rw[oK]at hm;obtain⟨m',mE,rfl⟩:=yW.mp hm;have:=yS.mp d6 m' mE;simp only[yY]at this;exact Vz ((o8 m').trans (xz (Kt this.2.2))) (zF this.1) this.2.1
 ·rw[oK,zV];have:=zF d5;lia
 ·rw[oK];exact cu (nc hx hy) d7
theorem Ax:(Txt.mul (Str.ofString "(") 3000).cps.toList=List.replicate 3000 40:=by decide +kernel
theorem Ay:(Txt.mul (Str.ofString "not ") 750).cps.toList=(List.replicate 750 (lit "not ")).flatten:=by decide +kernel
theorem Az:(Txt.mul (Str.ofString "(if ") 750).cps.toList=(List.replicate 750 (lit "(if ")).flatten:=by decide +kernel
theorem Cv:(Txt.mul (Str.ofString "(") 2900).cps.toList=List.replicate 2900 40:=by decide +kernel
theorem A0:(Str.ofString "say "++Txt.mul (Str.ofString "(") 2900++Str.ofString "\njudge y").cps.toList=lit "say "++(List.replicate 2900 40++lit "\njudge y"):=by
 simp only[yX,zP,zJ,Cv]
 rfl
theorem Ar:dk (List.replicate 3000 40)=true:=by decide +kernel
theorem As:dk (List.replicate 750 (lit "not ")).flatten=true:=by decide +kernel
theorem Au:dk (List.replicate 750 (lit "(if ")).flatten=true:=by decide +kernel
theorem Av:dk (lit "say "++(List.replicate 2900 40++lit "\njudge y"))=true:=by decide +kernel
theorem Cu:(Str.ofString "say ").length=4:=by decide +kernel
theorem Aw:(Str.ofString "\njudge y").length=8:=by decide +kernel
theorem Ct:(Txt.mul (Str.ofString "(") 2900).length=2900:=by rw[<-ym,Cv,uY]
theorem Fe(n:Nat):0<=(if(if(n:Int)<60 then(n:Int)else 60)>18 then(if(n:Int)<60 then(n:Int)else 60)else 18)/\(if(if(n:Int)<60 then(n:Int)else 60)>18 then(if(n:Int)<60 then(n:Int)else 60)else 18)<=60:=by
 split<;>split<;>lia
def Vo(K:W.Frag):Sp:=λvs H Q _=>∃(a:Addr)(ns:List Int),vs=[.ref a]/\SqL K H a (ns.map V.int)/\ns.length<=63/\∀H',Q (.bl true) H'
theorem sc_law:zm ["_law_script","_law_names_here","_law_k","_law_x","_law_bad","_law_good","_law_due","_law_y","_law_deep","_law_thing"] ["_law_script"] (zy (top 53)):=⟨rfl,rfl,rfl,by decide +kernel,rfl,by decide +kernel,by decide +kernel⟩
theorem Hz{f Cn Co Cr Ce:Addr}{fd:FuncData}(D:Fun K "law" "law" (top 53) f fd)(aP:zh P w K mg base 2 "_law_pick" ["_law_script","_law_k","_law_many"] (k6 K))(qN:zh P w K mg base 3 "_law_names" ["_law_script","_law_k","_law_many"] (Vq K))(rS:zh P w K mg base 3 "_law_pair" ["_law_script","_law_k","_law_x","_law_y"] (Q8 K))(nH:zh P w K mg base 1 "_law_by_lines" ["_law_way","_law_x","_law_y"] (Vp K))(aY:zh P w K mg base 134 "_law_refused" ["_law_text","_law_whole"] (Q9 K))(eG:zh P w K mg base 43 "_law_same" ["_law_found","_law_due"] (Rb K 43))
  (jO:yu P w K mg base 133 "read" ["text"] (a9 K Cn Co Cr Ce)) (bD:yu P w K mg base 86 "read_saying" ["text"] (mh K Cn)) (aD:mg "len"=none) (aQ:mg "range"=none) (qT:mg "max"=none) (qR:mg "min"=none):vc P w K mg base CX0 136 f fd ["_law_script"] (Vo K):=by
 refine Oo D sc_law (λvs H Q E h=>?_) λf cdv A outer s H vs Q E hr h=>?_
 ·obtain⟨a,ns,rfl,_⟩:=h
  rfl
 have nd:=sc_law.nd;obtain⟨a,ns,rfl,hS,h63',q⟩:=h;have pA:ns.length<=5000:=yQ h63' (by decide);refine⟨[some (.ref a),none,none,none,none,none,none,none,none,none],_,rfl,(zz (zn 1 nd (zg qN hr (by lia) (z9 (z8 0) (z9 zv (z9 zv z4)))))
  (zz (uk xV rfl (Ph rfl aQ (z9 zv (z9 (zq (Dv rfl) rfl qT Go (z9 zv (z9 (zq (Dw rfl) rfl qR Gp (z9 zv (z9 (zq ya rfl aD yp (z9 (z8 0) z4)) z4))) z4))) (z9 zv z4)))) (ve 2 nd) (zz (zn 3 nd (vy (z8 1) (zg aP hr (by lia) (z9 (z8 0) (z9 (z8 2) (z9 zv z4)))) (λ_ _=>rfl)))
  (zz (Xp (zg rS hr (by lia) (z9 (z8 0) (z9 (z8 2) (z9 (z8 3) (z9 (vy (z8 1) zv (λ_ _=>rfl)) z4))))) (Pi 4 5 6 rfl nd))
  (zx (za (PW.pt (su (wu (xw (zg aY hr (by lia) (z9 (z8 4) (z9 yj z4))))) (su (wu (xw (zg eG hr (by lia) (z9 (vw bD U8 hr (by lia) (z9 (z8 5) z4)) (z9 (z8 6) z4))))) (ud (wu (xw (zg aY hr (by lia) (z9 (z8 4) (z9 yj z4))))))))) (zx (zk yj)) zi)))))
  (zz (zn 3 nd (vy (z8 1) zv (λ_ _=>rfl)))
  (zz (zn 7 nd (vy (z8 1) zv (λ_ _=>rfl)))
  (zz (zn 6 nd (yy (z9 (yy (z9 (yy (z9 z7 (z9 (z8 3) z4))) (z9 (yy (z9 z7 (z9 (yy (z9 z7 (z9 (z8 7) z4))) z4))) z4))) (z9 (yy (z9 (yy (z9 yj (z9 yj z4))) z4)) z4))))
  (zz (uk xV rfl (vm rfl aQ (z9 zv z4)) (ve 2 nd) (zz (Xp (zg nH hr (by lia) (z9 (zg aP hr (by lia) (z9 (z8 0) (z9 (z6 z5 zv (z8 2)) (z9 zv z4)))) (z9 (z8 3) (z9 (z8 7) z4)))) (Hu 4 5 rfl nd))
  (zx (za (PW.pt (su (wu (xw (zg aY hr (by lia) (z9 (z8 4) (z9 yj z4))))) (su (wu (xw (zg eG hr (by lia) (z9 (vw jO U8 hr (by lia) (z9 (z8 5) z4)) (z9 (z8 6) z4))))) (ud (wu (xw (zg aY hr (by lia) (z9 (z8 4) (z9 yj z4))))))))) (zx (zk yj)) zi))))
  (zz (zn 8 nd (zd (z9 (z6 pw z7 zv) (z9 (z6 pw z7 zv) (z9 (z6 pw z7 zv) (z9 (z6 z5 (z6 z5 z7 (z6 pw z7 zv)) z7) z4))))))
  (zz (uk xV rfl (wt (z6 z5 (z8 8) (zd (z9 Io (z9 zv (z9 (yy (z9 z7 (z9 (z8 3) z4))) (z9 (zd (z9 z7 z4)) (z9 Hq (z9 yj z4))))))))) (ve 9 nd) (zx (za (PW.pt (su (wu (xw (zg aY hr (by lia) (z9 (z8 9) (z9 yj z4))))) (ud (wu (xw (zg aY hr (by lia) (z9 (z8 9) (z9 yj z4)))))))) (zx (zk yj)) zi)))
  (zx (zk yj)))))))))),?_⟩
 walk_at"rp";refine⟨a,ns,_,_,rfl,hS,pA,by decide,by decide,by decide,by decide,λb H1 xs nb s1 eb lb hx=>?_⟩;walk_at"rp";refine⟨_,.inl (s1.seq hS),?_⟩;rw[zV];have rg:=Fe ns.length;generalize(if(if(ns.length:Int)<60 then(ns.length:Int)else 60)>18 then(if(ns.length:Int)<60 then(ns.length:Int)else 60)else 18)=m at rg ⊢;have hlx:xs.length=3:=by lia
 obtain⟨z0,z1,z2,rfl⟩:∃z0 z1 z2,xs=[z0,z1,z2]:=match xs,hlx with|[z0,z1,z2],_=>⟨z0,z1,z2,rfl⟩
 have CZ:=hx z0 (by simp);have mD:=hx z1 (by simp);have CY:=hx z2 (by simp);refine⟨⟨by decide,by decide,rg.1,by lia,by decide,by decide⟩,Yz (λi σ H2=>(∃x2 x3 x4 x5 x6,σ=[some (.ref a),some (.ref b),x2,x3,x4,x5,x6,none,none,none])/\Same H1 H2) ⟨⟨_,_,_,_,_,rfl⟩,Same.refl _⟩ ?_ ?_⟩
 ·rintro i σ H2 hi ⟨⟨x2,x3,x4,x5,x6,rfl⟩,s2⟩;have hk:=Ff (by decide) hi;have pK:=s1.trans s2;walk_at"rp";refine⟨a,ns,_,3,rfl,pK.seq hS,pA,by lia,by lia,by decide,λj j0 j3=>?_⟩;obtain⟨xv,hxv,ex⟩:=tf (xs:=[z0,z1,z2].map V.str) j0 (show j<(3:Int)by lia);obtain⟨x,hxm,rfl⟩:=yW.mp hxv;have hxx:=hx x hxm;refine⟨_,_,.inl (SqL.of (s2 _ _ eb)),ex,?_⟩;walk_at"rp";refine⟨_,_,.inl (SqL.of (s2 _ _ eb)),rfl,?_⟩;refine⟨a,ns,_,x,z2,rfl,pK.seq hS,pA,by lia,by lia,hxx,CY,λp H3 s3 hP=>?_⟩;obtain⟨bad,good,v,g,hp,hb,hg,hv,g40⟩:=hP;walk_at"rp";refine⟨p,_,_,_,rfl,SqL.of hp,?_⟩;walk_at"rp";refine⟨.str bad,false,rfl,.inr ⟨bad,rfl,hb.1,λ_=>hb.2,λz=>by cases z⟩,λH4 s4=>?_⟩;walk_at"rp";refine⟨.str good,rfl,.inr ⟨good,rfl,hg.1,(λz=>by rw[hg.2]at z;cases z),λt e v5 H5 s5 h5=>?_⟩⟩;rw[hg.2]at e;cases e;walk_at"rp";refine⟨v5,v,rfl,SmT.le (d':=43) (by lia) (pf h5 (hv.mono (zw (s4.trans s5)))),λH6 s6=>?_⟩;walk_at"rp";refine⟨.str bad,false,rfl,.inr ⟨bad,rfl,hb.1,λ_=>hb.2,λz=>by cases z⟩,λH7 s7=>?_⟩;walk_at"rp";exact⟨⟨_,_,_,_,_,rfl⟩,s2.trans (s3.trans (s4.trans (s5.trans (s6.trans s7))))⟩
 rintro σ H2 ⟨⟨x2,x3,x4,x5,x6,rfl⟩,s2⟩;have pK:=s1.trans s2;walk_at"rp";refine⟨_,_,.inl (SqL.of (s2 _ _ eb)),rfl,?_⟩;walk_at"rp";refine⟨_,_,.inl (SqL.of (s2 _ _ eb)),rfl,?_⟩;walk_at"rp";refine⟨zt (by simp),λd1 D1 CW lR pC=>⟨zt (by simp),λd2 D2 EG kO qI=>⟨zt (by simp),λd3 D3 PY sU BY=>⟨zt (by simp),λd4 D4 nd4 GK VO=>⟨zt (by simp),λd5 D5 nd5 sd5 ed5=>⟨zt (by simp),λd6 D6 nd6 sd6 ed6=>⟨zt (by simp),λd7 D7 nd7 sd7 ed7=>?_⟩⟩⟩⟩⟩⟩⟩;have s67:=sd7;have s57:=sd6.trans s67;have s47:=sd5.trans s57;have s37:=GK.trans s47;have s27:=sU.trans s37;have s17:=kO.trans s27;have s07:=pK.trans (lR.trans s17);have hT7:SaysAt K D7 [.ref d1,.ref d3] (fe z0 z1):=⟨⟨d1,rfl,SqT.of (s17 _ _ pC)⟩,⟨d3,_,rfl,SqT.of (s37 _ _ BY),⟨d2,rfl,SqT.of (s27 _ _ qI)⟩⟩,trivial⟩
 have hW:=Rr CZ mD;have hL:=Nr CZ mD;walk_at"rp";refine⟨⟨by decide,by decide⟩,ua (λi σ H8=>(∃x2 x4 x5,σ=[some (.ref a),some (.ref b),x2,some (.str z0),x4,x5,some (.ref d7),some (.str z1),none,none])/\Same D7 H8) ⟨⟨_,_,_,rfl⟩,Same.refl _⟩ ?_ ?_⟩
 ·rintro i σ H8 hi ⟨⟨y2,y4,y5,rfl⟩,s8⟩;have hi3:i<3:=hi;walk_at"rp";refine⟨a,ns,_,_,rfl,(s07.trans s8).seq hS,pA,by lia,by lia,by decide,λj j0 j1=>?_⟩;walk_at"rp";refine⟨j,z0,z1,rfl,CZ,mD,λp H9 bad t s9 hp ht eb'=>?_⟩;walk_at"rp";refine⟨p,_,_,rfl,SqL.of hp,?_⟩;walk_at"rp";refine⟨.str bad,true,rfl,by rw[eb'];exact gd CZ mD ht,λHa sa=>?_⟩;walk_at"rp";rw[Tx];refine M3 (vd:=.ok) hW (Lst.toW hL) (J9 hL) ?_;intro p3 b3 j3 Hb us3 J3 sB hp3 hb3 hT3 hj3 hJ3 ek3;have JN:=s8.trans (s9.trans (sa.trans sB));walk_at"rp";refine⟨.ref p3,.ref d7,rfl,Q6 (J':=[(d5,[true,false])]) hp3 (SqT.of (JN _ _ ed7)) hb3 hT3 (SqT.of ((s47.trans JN) _ _ VO)) (hT7.mono (zw JN)) hL.pc hj3 hJ3 (SqT.of ((s67.trans JN) _ _ ed6)) (λz hz=>by rw[zX.mp hz];exact SqT.of ((s57.trans JN) _ _ ed5)) ek3,λHc sc=>?_⟩;walk_at"rp";refine⟨.str bad,true,rfl,by rw[eb'];exact gd CZ mD ht,λHd sd=>?_⟩;walk_at"rp";exact⟨⟨_,_,_,rfl⟩,JN.trans (sc.trans sd)⟩
 rintro σ H8 ⟨⟨y2,y4,y5,rfl⟩,s8⟩;walk_at"rp";refine⟨_,_,rfl,rfl,pb (by decide +kernel) (by decide) (by decide),_,_,rfl,rfl,pb (by decide +kernel) (by decide) (by decide),_,_,rfl,rfl,pb (by decide +kernel) (by decide) (by decide),_,_,rfl,rfl,pb (by decide +kernel) (by decide) (by decide),szt (by rw[Cu,Ct];decide),szt (by rw[yo,Cu,Ct,Aw];decide),zt (by simp),λl1 G1 m1 t1 f1=>?_⟩;have a1:∀v∈[V.str (Txt.mul (Str.ofString "(") 3000),V.str (Txt.mul (Str.ofString "not ") 750),V.str (Txt.mul (Str.ofString "(if ") 750),V.str (Str.ofString "say "++Txt.mul (Str.ofString "(") 2900++Str.ofString "\njudge y")],∀(H':Hp)(c:Bool),N6 K H' v c:=λv hv H' c=>by
  rcases zL.mp hv with rfl|hv
  ·exact qp CZ mD Ax Ar
  rcases zL.mp hv with rfl|hv
  ·exact qp CZ mD Ay As
  rcases zL.mp hv with rfl|hv
  ·exact qp CZ mD Az Au
  rw[zX.mp hv];exact qp CZ mD A0 Av
 have qF:[V.str (Txt.mul (Str.ofString "(") 3000),V.str (Txt.mul (Str.ofString "not ") 750),V.str (Txt.mul (Str.ofString "(if ") 750),V.str (Str.ofString "say "++Txt.mul (Str.ofString "(") 2900++Str.ofString "\njudge y")].length=4:=rfl;generalize[V.str (Txt.mul (Str.ofString "(") 3000),V.str (Txt.mul (Str.ofString "not ") 750),V.str (Txt.mul (Str.ofString "(if ") 750),V.str (Str.ofString "say "++Txt.mul (Str.ofString "(") 2900++Str.ofString "\njudge y")]=dl at a1 f1 qF;walk_at"rp";refine⟨zt (by simp),λt2 G2 m2 u2 f2=>⟨zt (by simp),λl3 G3 m3 u3 f3=>λd8 G4 m4 u4 f4=>⟨zt (by simp),λl5 G5 m5 u5 f5=>?_⟩⟩⟩;walk_at"rp";have u25:=u3.trans (u4.trans u5);refine .inl ⟨_,_,(u2.trans u25) _ _ f1,f5,zt (by rw[qF];exact(show 10<=1000 by decide)),λl6 G6 m6 u6 f6=>?_⟩;have v2:=(u25.trans u6) _ _ f2;have v3:=(u4.trans (u5.trans u6)) _ _ f3;have v4:=(u5.trans u6) _ _ f4;refine .inl ⟨⟨_,SqL.of f6⟩,b9 (xs:=dl++[V.non,V.int 7,V.ref t2,V.ref l3,V.ref d8,V.bl true]) (λi σ H9=>(∃x9,σ=[some (.ref a),some (.ref b),y2,some (.str z0),y4,y5,some (.ref d7),some (.str z1),some (.ref l1),x9])/\Same G6 H9) ⟨⟨_,rfl⟩,Same.refl _⟩ ?_ ?_ ?_⟩
 ·rintro i σ H9 _ ⟨_,s9⟩;exact SqL.of (s9 _ _ f6)
 ·rintro i v σ H9 hv ⟨⟨x9,rfl⟩,s9⟩;have hR:∀H',Same G6 H'->∀c,N6 K H' v c:=λH' s' c=>by
   rcases zK.mp (zB hv)with z|z
   ·exact a1 v z H' c
   ·simp only[zL,uL,or_false]at z;rcases z with rfl|rfl|rfl|rfl|rfl|rfl
    ·exact .inl ⟨_,.of .non,rfl⟩
    ·exact .inl ⟨_,.of (.int _),rfl⟩
    ·exact .inl ⟨_,.of (.tup (s' _ _ v2)),rfl⟩
    ·exact .inl ⟨_,.of (.lst (s' _ _ v3)),rfl⟩
    ·exact .inl ⟨_,.of (.dK (s' _ _ v4)),rfl⟩
    ·exact .inl ⟨_,.of (.bl _),rfl⟩
  walk_at"rp";refine⟨v,false,rfl,hR H9 s9 false,λHa sa=>?_⟩;walk_at"rp";refine⟨v,true,rfl,hR Ha (s9.trans sa) true,λHb sb=>?_⟩;walk_at"rp";exact⟨⟨_,rfl⟩,s9.trans (sa.trans sb)⟩
 ·rintro σ H9 ⟨⟨x9,rfl⟩,s9⟩;walk_at"rp";exact q H9
theorem Z2{Ta:Addr}{es:Array DictEntry}{ep:Nat}{t1 t2:Tok}(l:K.lookup Ta=some ⟨.type "dict",none,.dict es ep,#[]⟩)(q:es=#[⟨hashStr w "y",.str "y" t1,.bool true⟩,⟨hashStr w "n",.str "n" t2,.bool false⟩])(n:(Ta==sysModules)=false):DictK P w K Ta ug:=by
 subst q;refine⟨_,_,_,l,⟨rfl,rfl,rfl⟩,rfl,λe he=>?_,.cons (wc _ _ _ _) rfl (.cons (wc _ _ _ _) rfl .nil),by decide +kernel,n⟩;have JZ:e∈[(⟨hashStr w "y",.str "y" t1,.bool true⟩:DictEntry),⟨hashStr w "n",.str "n" t2,.bool false⟩]:=by simpa using he
 rcases zL.mp JZ with z|z
 ·rw[z];exact⟨_,wc _ _ _ _,rfl⟩
 ·rw[zX.mp z];exact⟨_,wc _ _ _ _,rfl⟩
theorem Ug{Wa:Addr}{od:Option Addr}{n:Nat}{sl:Array (Option Value)}{t0 t1 t2 t3 t4 t5 t6:Tok}(l:K.lookup Wa=some ⟨.type "tuple",od,.seq #[.str "not" t0,.str "and" t1,.str "or" t2,.str "if" t3,.str "then" t4,.str "say" t5,.str "judge" t6] n,sl⟩)(H:Hp):SqT K H Wa (wordsL.map V.str) :=
 .inr ⟨_,_,_,l,rfl,rfl,zt (show 7<=1000 by decide),.cons ⟨_,rfl⟩ (.cons ⟨_,rfl⟩ (.cons ⟨_,rfl⟩ (.cons ⟨_,rfl⟩ (.cons ⟨_,rfl⟩ (.cons ⟨_,rfl⟩ (.cons ⟨_,rfl⟩ .nil))))))⟩
end
end Kx
namespace Kx
open PySem PySem.Spec L2 My
open PyProof.Rows hiding St
theorem all_mk{l:W.OpenLaw}{w:World}{K:W.Frag}{h:Heap}{mg:Str->Option Value}{fa:Addr}(X:K.In h)(G:h.Ns mainGlobals mg)(hfa:mg "law"=some (.ref fa))
  {f_8:Addr}{od_8 an_8:Option Addr}{sl_8:Array (Option Value)}{oc_8 kV_8 dc_8 pm_8 YA ct_8:Value}
  {f_9:Addr}{od_9 an_9:Option Addr}{sl_9:Array (Option Value)}{oc_9 kV_9 dc_9 pm_9 X' ct_9:Value}
  {JD:Addr}{OH an_10:Option Addr}{LY:Array (Option Value)}{PQ UC WR NB GC XX:Value}
  {JC:Addr}{OG an_11:Option Addr}{LX:Array (Option Value)}{PP UB WQ NA GB XW:Value}
  {JB:Addr}{OF an_13:Option Addr}{LW:Array (Option Value)}{PN UA WP M' GA XV:Value}
  {JA:Addr}{OE an_14:Option Addr}{LV:Array (Option Value)}{PM TZ WO MZ F' XU:Value}
  {IZ:Addr}{OD an_16:Option Addr}{LU:Array (Option Value)}{PL TY WN MY FZ XT:Value}
  {IY:Addr}{OC an_17:Option Addr}{LS:Array (Option Value)}{PK TX WM MX FY XS:Value}
  {IX:Addr}{OB an_18:Option Addr}{LR:Array (Option Value)}{PJ TW WL MW FX XR:Value}
  {IW:Addr}{OA an_19:Option Addr}{LQ:Array (Option Value)}{PH TV WK MV FW XQ:Value}
  {IV:Addr}{NZ an_25:Option Addr}{LP:Array (Option Value)}{PD TU WJ MU FV XN:Value}
  {IU:Addr}{NY an_26:Option Addr}{LO:Array (Option Value)}{PC TR WI MT FU XM:Value}
  {IT:Addr}{NW ZZ:Option Addr}{LN:Array (Option Value)}{PB TQ WH MS FT XJ:Value}
  {IS:Addr}{NV ZY:Option Addr}{LM:Array (Option Value)}{OZ TN WG MR FS XI:Value}
  {IR:Addr}{NU ZX:Option Addr}{LL:Array (Option Value)}{OY TM WF MQ FR XH:Value}
  {IQ:Addr}{NT ZW:Option Addr}{LK:Array (Option Value)}{OX TL WE MP FQ XG:Value}
  {IP:Addr}{NS ZV:Option Addr}{LJ:Array (Option Value)}{OW TK WD MO FP XF:Value}
  {IN:Addr}{NR ZU:Option Addr}{LI:Array (Option Value)}{OV TJ WC MN FO XE:Value}
  {IM:Addr}{NQ ZT:Option Addr}{LH:Array (Option Value)}{OU TH WB MM FN XD:Value}
  {IL:Addr}{NP ZS:Option Addr}{LG:Array (Option Value)}{OT TF WA ML FM XC:Value}
  {IK:Addr}{NO ZR:Option Addr}{LF:Array (Option Value)}{OS TD V' MK FL XB:Value}
  {IJ:Addr}{NN ZQ:Option Addr}{LD:Array (Option Value)}{OR TC VZ MJ FK XA:Value}
  {II:Addr}{NM ZP:Option Addr}{LC:Array (Option Value)}{OQ S' VY MI FJ W':Value}
  {IH:Addr}{NL ZO:Option Addr}{LB:Array (Option Value)}{OP SY VX MH FI WZ:Value}
  {IG:Addr}{NK ZN:Option Addr}{LA:Array (Option Value)}{OO SX VW MG FH WY:Value}
  {IF:Addr}{NJ ZM:Option Addr}{K':Array (Option Value)}{ON SW VV MF FG WX:Value}
  {IE:Addr}{NI ZL:Option Addr}{KZ:Array (Option Value)}{OM SV VU ME FF WW:Value}
  {ID:Addr}{NH ZK:Option Addr}{KY:Array (Option Value)}{OL SU VT MD FE WV:Value}
  {IC:Addr}{NG ZJ:Option Addr}{KW:Array (Option Value)}{OK SS VS MC FD WU:Value}
  {IB:Addr}{NF ZI:Option Addr}{KU:Array (Option Value)}{OJ SR VR MB FC WT:Value}
  {IA:Addr}{NE ZH:Option Addr}{KS:Array (Option Value)}{OI SQ VQ MA FA WS:Value}
  {BX:Addr}{GQ CA:Option Addr}{GJ:Array (Option Value)}{GR BH BZ BF rE B':Value}
  {aG:Addr}
  {cT:Addr}{kA kN:Option Addr}{jV:Array (Option Value)}{kC kE kJ jY eZ kL:Value}
  {bC:Addr}{iR jD:Option Addr}{iN:Array (Option Value)}{iT iW iZ iP cV jB:Value}
  {bG:Addr}{jZ kM:Option Addr}{jU:Array (Option Value)}{kB kD kI jX eY kK:Value}
  {aX:Addr}{fU gR:Option Addr}{fQ:Array (Option Value)}{fW gF gJ fS bX gL:Value}
  {bB:Addr}{iQ jC:Option Addr}{iM:Array (Option Value)}{iS iV iY iO cU jA:Value}
  {aW:Addr}{fT gQ:Option Addr}{fP:Array (Option Value)}{fV gE gI fR bW gK:Value}
  {aU:Addr}{dU eE:Option Addr}{dR:Array (Option Value)}{dW dZ eB dS bH eC:Value}
  {aR:Addr}
  {bT:Addr}{lV mW:Option Addr}{lQ:Array (Option Value)}{lW mC mJ lU gM mK:Value}
  {aO:Addr}
  {aI:Addr}
  {bI:Addr}
  {aN:Addr}
  {mU:Addr}
  {lO:Tok}
  {oX:Tok}
  {nR:Tok}
  {nS:Tok}
  {lP:Tok}
  {jT:Tok}
  {sP:Addr}
  {BG:Option Addr}{BD:Nat}{BE:Array (Option Value)}{BC BB BA AZ AY AX AW:Tok}
  {mT:Addr}
  {oP:Array DictEntry}{AC:Nat}{sT sS:Tok}
  (a_8:W.nsIn K mainGlobals "pieces_in"=some (some (.ref f_8))) (l_8:K.lookup f_8=some ⟨oc_8,od_8,.func (W.fnOf "pieces_in" "pieces_in" (zp (top 8)) (zr (top 8)) (zy (top 8)) .none kV_8 dc_8 pm_8 an_8 YA ct_8),sl_8⟩) (c_8:W.codeIn K YA "pieces_in"=true) (k_8:W.keepIn K (.ref f_8)=true)
  (a_9:W.nsIn K mainGlobals "letters_in"=some (some (.ref f_9))) (l_9:K.lookup f_9=some ⟨oc_9,od_9,.func (W.fnOf "letters_in" "letters_in" (zp (top 9)) (zr (top 9)) (zy (top 9)) .none kV_9 dc_9 pm_9 an_9 X' ct_9),sl_9⟩) (c_9:W.codeIn K X' "letters_in"=true) (k_9:W.keepIn K (.ref f_9)=true)
  (a_10:W.nsIn K mainGlobals "names_in"=some (some (.ref JD))) (RF:K.lookup JD=some ⟨PQ,OH,.func (W.fnOf "names_in" "names_in" (zp (top 10)) (zr (top 10)) (zy (top 10)) .none UC WR NB an_10 GC XX),LY⟩) (ZE:W.codeIn K GC "names_in"=true) (SO:W.keepIn K (.ref JD)=true)
  (a_11:W.nsIn K mainGlobals "is_so"=some (some (.ref JC))) (RE:K.lookup JC=some ⟨PP,OG,.func (W.fnOf "is_so" "is_so" (zp (top 11)) (zr (top 11)) (zy (top 11)) .none UB WQ NA an_11 GB XW),LX⟩) (ZD:W.codeIn K GB "is_so"=true) (SN:W.keepIn K (.ref JC)=true)
  (a_13:W.nsIn K mainGlobals "ways_to_hold"=some (some (.ref JB))) (RD:K.lookup JB=some ⟨PN,OF,.func (W.fnOf "ways_to_hold" "ways_to_hold" (zp (top 13)) (zr (top 13)) (zy (top 13)) .none UA WP M' an_13 GA XV),LW⟩) (ZC:W.codeIn K GA "ways_to_hold"=true) (SM:W.keepIn K (.ref JB)=true)
  (a_14:W.nsIn K mainGlobals "held_by"=some (some (.ref JA))) (RC:K.lookup JA=some ⟨PM,OE,.func (W.fnOf "held_by" "held_by" (zp (top 14)) (zr (top 14)) (zy (top 14)) .none TZ WO MZ an_14 F' XU),LV⟩) (ZB:W.codeIn K F' "held_by"=true) (SK:W.keepIn K (.ref JA)=true)
  (a_16:W.nsIn K mainGlobals "names_of"=some (some (.ref IZ))) (RB:K.lookup IZ=some ⟨PL,OD,.func (W.fnOf "names_of" "names_of" (zp (top 16)) (zr (top 16)) (zy (top 16)) .none TY WN MY an_16 FZ XT),LU⟩) (Y':W.codeIn K FZ "names_of"=true) (SJ:W.keepIn K (.ref IZ)=true)
  (a_17:W.nsIn K mainGlobals "all_held"=some (some (.ref IY))) (RA:K.lookup IY=some ⟨PK,OC,.func (W.fnOf "all_held" "all_held" (zp (top 17)) (zr (top 17)) (zy (top 17)) .none TX WM MX an_17 FY XS),LS⟩) (YZ:W.codeIn K FY "all_held"=true) (SI:W.keepIn K (.ref IY)=true)
  (a_18:W.nsIn K mainGlobals "row_of"=some (some (.ref IX))) (QZ:K.lookup IX=some ⟨PJ,OB,.func (W.fnOf "row_of" "row_of" (zp (top 18)) (zr (top 18)) (zy (top 18)) .none TW WL MW an_18 FX XR),LR⟩) (YY:W.codeIn K FX "row_of"=true) (SH:W.keepIn K (.ref IX)=true)
  (a_19:W.nsIn K mainGlobals "fit_rows"=some (some (.ref IW))) (QY:K.lookup IW=some ⟨PH,OA,.func (W.fnOf "fit_rows" "fit_rows" (zp (top 19)) (zr (top 19)) (zy (top 19)) .none TV WK MV an_19 FW XQ),LQ⟩) (YX:W.codeIn K FW "fit_rows"=true) (SG:W.keepIn K (.ref IW)=true)
  (a_25:W.nsIn K mainGlobals "check_bounds"=some (some (.ref IV))) (QX:K.lookup IV=some ⟨PD,NZ,.func (W.fnOf "check_bounds" "check_bounds" (zp (top 25)) (zr (top 25)) (zy (top 25)) .none TU WJ MU an_25 FV XN),LP⟩) (YW:W.codeIn K FV "check_bounds"=true) (SE:W.keepIn K (.ref IV)=true)
  (a_26:W.nsIn K mainGlobals "is_among"=some (some (.ref IU))) (QW:K.lookup IU=some ⟨PC,NY,.func (W.fnOf "is_among" "is_among" (zp (top 26)) (zr (top 26)) (zy (top 26)) .none TR WI MT an_26 FU XM),LO⟩) (YV:W.codeIn K FU "is_among"=true) (SD:W.keepIn K (.ref IU)=true)
  (a_27:W.nsIn K mainGlobals "check_rows"=some (some (.ref IT))) (QV:K.lookup IT=some ⟨PB,NW,.func (W.fnOf "check_rows" "check_rows" (zp (top 27)) (zr (top 27)) (zy (top 27)) .none TQ WH MS ZZ FT XJ),LN⟩) (YU:W.codeIn K FT "check_rows"=true) (SA:W.keepIn K (.ref IT)=true)
  (a_28:W.nsIn K mainGlobals "seated"=some (some (.ref IS))) (QU:K.lookup IS=some ⟨OZ,NV,.func (W.fnOf "seated" "seated" (zp (top 28)) (zr (top 28)) (zy (top 28)) .none TN WG MR ZY FS XI),LM⟩) (YT:W.codeIn K FS "seated"=true) (RZ:W.keepIn K (.ref IS)=true)
  (a_35:W.nsIn K mainGlobals "check_text"=some (some (.ref IR))) (QT:K.lookup IR=some ⟨OY,NU,.func (W.fnOf "check_text" "check_text" (zp (top 35)) (zr (top 35)) (zy (top 35)) .none TM WF MQ ZX FR XH),LL⟩) (YS:W.codeIn K FR "check_text"=true) (RY:W.keepIn K (.ref IR)=true)
  (a_36:W.nsIn K mainGlobals "read_saying"=some (some (.ref IQ))) (QS:K.lookup IQ=some ⟨OX,NT,.func (W.fnOf "read_saying" "read_saying" (zp (top 36)) (zr (top 36)) (zy (top 36)) .none TL WE MP ZW FQ XG),LK⟩) (YR:W.codeIn K FQ "read_saying"=true) (RX:W.keepIn K (.ref IQ)=true)
  (a_37:W.nsIn K mainGlobals "read_row"=some (some (.ref IP))) (QQ:K.lookup IP=some ⟨OW,NS,.func (W.fnOf "read_row" "read_row" (zp (top 37)) (zr (top 37)) (zy (top 37)) .none TK WD MO ZV FP XF),LJ⟩) (YQ:W.codeIn K FP "read_row"=true) (RW:W.keepIn K (.ref IP)=true)
  (a_38:W.nsIn K mainGlobals "read"=some (some (.ref IN))) (QP:K.lookup IN=some ⟨OV,NR,.func (W.fnOf "read" "read" (zp (top 38)) (zr (top 38)) (zy (top 38)) .none TJ WC MN ZU FO XE),LI⟩) (YO:W.codeIn K FO "read"=true) (RV:W.keepIn K (.ref IN)=true)
  (a_40:W.nsIn K mainGlobals "_law_cell"=some (some (.ref IM))) (QO:K.lookup IM=some ⟨OU,NQ,.func (W.fnOf "_law_cell" "_law_cell" (zp (top 40)) (zr (top 40)) (zy (top 40)) .none TH WB MM ZT FN XD),LH⟩) (YN:W.codeIn K FN "_law_cell"=true) (RU:W.keepIn K (.ref IM)=true)
  (a_41:W.nsIn K mainGlobals "_law_pick"=some (some (.ref IL))) (QN:K.lookup IL=some ⟨OT,NP,.func (W.fnOf "_law_pick" "_law_pick" (zp (top 41)) (zr (top 41)) (zy (top 41)) .none TF WA ML ZS FM XC),LG⟩) (YM:W.codeIn K FM "_law_pick"=true) (RT:W.keepIn K (.ref IL)=true)
  (a_42:W.nsIn K mainGlobals "_law_safe"=some (some (.ref IK))) (QM:K.lookup IK=some ⟨OS,NO,.func (W.fnOf "_law_safe" "_law_safe" (zp (top 42)) (zr (top 42)) (zy (top 42)) .none TD V' MK ZR FL XB),LF⟩) (YL:W.codeIn K FL "_law_safe"=true) (RS:W.keepIn K (.ref IK)=true)
  (a_43:W.nsIn K mainGlobals "_law_names"=some (some (.ref IJ))) (QL:K.lookup IJ=some ⟨OR,NN,.func (W.fnOf "_law_names" "_law_names" (zp (top 43)) (zr (top 43)) (zy (top 43)) .none TC VZ MJ ZQ FK XA),LD⟩) (YK:W.codeIn K FK "_law_names"=true) (RQ:W.keepIn K (.ref IJ)=true)
  (a_44:W.nsIn K mainGlobals "_law_same"=some (some (.ref II))) (QK:K.lookup II=some ⟨OQ,NM,.func (W.fnOf "_law_same" "_law_same" (zp (top 44)) (zr (top 44)) (zy (top 44)) .none S' VY MI ZP FJ W'),LC⟩) (YJ:W.codeIn K FJ "_law_same"=true) (RP:W.keepIn K (.ref II)=true)
  (a_45:W.nsIn K mainGlobals "_law_refused"=some (some (.ref IH))) (QJ:K.lookup IH=some ⟨OP,NL,.func (W.fnOf "_law_refused" "_law_refused" (zp (top 45)) (zr (top 45)) (zy (top 45)) .none SY VX MH ZO FI WZ),LB⟩) (YI:W.codeIn K FI "_law_refused"=true) (RO:W.keepIn K (.ref IH)=true)
  (a_46:W.nsIn K mainGlobals "_law_by_blank"=some (some (.ref IG))) (QI:K.lookup IG=some ⟨OO,NK,.func (W.fnOf "_law_by_blank" "_law_by_blank" (zp (top 46)) (zr (top 46)) (zy (top 46)) .none SX VW MG ZN FH WY),LA⟩) (YH:W.codeIn K FH "_law_by_blank"=true) (RN:W.keepIn K (.ref IG)=true)
  (a_47:W.nsIn K mainGlobals "_law_by_if"=some (some (.ref IF))) (QH:K.lookup IF=some ⟨ON,NJ,.func (W.fnOf "_law_by_if" "_law_by_if" (zp (top 47)) (zr (top 47)) (zy (top 47)) .none SW VV MF ZM FG WX),K'⟩) (YG:W.codeIn K FG "_law_by_if"=true) (RM:W.keepIn K (.ref IF)=true)
  (a_48:W.nsIn K mainGlobals "_law_by_name"=some (some (.ref IE))) (QG:K.lookup IE=some ⟨OM,NI,.func (W.fnOf "_law_by_name" "_law_by_name" (zp (top 48)) (zr (top 48)) (zy (top 48)) .none SV VU ME ZL FF WW),KZ⟩) (YF:W.codeIn K FF "_law_by_name"=true) (RL:W.keepIn K (.ref IE)=true)
  (a_49:W.nsIn K mainGlobals "_law_by_size"=some (some (.ref ID))) (QF:K.lookup ID=some ⟨OL,NH,.func (W.fnOf "_law_by_size" "_law_by_size" (zp (top 49)) (zr (top 49)) (zy (top 49)) .none SU VT MD ZK FE WV),KY⟩) (YE:W.codeIn K FE "_law_by_size"=true) (RK:W.keepIn K (.ref ID)=true)
  (a_50:W.nsIn K mainGlobals "_law_within"=some (some (.ref IC))) (QE:K.lookup IC=some ⟨OK,NG,.func (W.fnOf "_law_within" "_law_within" (zp (top 50)) (zr (top 50)) (zy (top 50)) .none SS VS MC ZJ FD WU),KW⟩) (YD:W.codeIn K FD "_law_within"=true) (RJ:W.keepIn K (.ref IC)=true)
  (a_51:W.nsIn K mainGlobals "_law_pair"=some (some (.ref IB))) (QD:K.lookup IB=some ⟨OJ,NF,.func (W.fnOf "_law_pair" "_law_pair" (zp (top 51)) (zr (top 51)) (zy (top 51)) .none SR VR MB ZI FC WT),KU⟩) (YC:W.codeIn K FC "_law_pair"=true) (RI:W.keepIn K (.ref IB)=true)
  (a_52:W.nsIn K mainGlobals "_law_by_lines"=some (some (.ref IA))) (QC:K.lookup IA=some ⟨OI,NE,.func (W.fnOf "_law_by_lines" "_law_by_lines" (zp (top 52)) (zr (top 52)) (zy (top 52)) .none SQ VQ MA ZH FA WS),KS⟩) (YB:W.codeIn K FA "_law_by_lines"=true) (RH:W.keepIn K (.ref IA)=true)
  (GG:W.nsIn K mainGlobals "law"=some (some (.ref BX))) (EH:K.lookup BX=some ⟨GR,GQ,.func (W.fnOf "law" "law" (zp (top 53)) (zr (top 53)) (zy (top 53)) .none BH BZ BF CA rE B'),GJ⟩) (GD:W.codeIn K rE "law"=true) (EI:W.keepIn K (.ref BX)=true)
  (mS:W.nsIn K mainGlobals "Reading"=some (some (.ref aG))) (mO:W.makesIn K aG=true) (mP:W.keepIn K (.ref aG)=true) (mR:W.plainGet K aG Str.empty=true) (mQ:W.hasDictIn K aG=true) (mM:W.plainOver K aG=true) (mL:W.findIn K (.ref aG) "__setattr__"=some (some (.builtin "object.__setattr__")))
  (gT:W.findIn K (.ref aG) "__init__"=some (some (.ref cT))) (gB:K.lookup cT=some ⟨kC,kA,.func (W.fnOf "__init__" "Reading.__init__" (zp (zb (top 34) 0)) (zr (zb (top 34) 0)) (zy (zb (top 34) 0)) .none kE kJ jY kN eZ kL),jV⟩) (gP:W.codeIn K eZ "Reading.__init__"=true) (fY:W.isFn K (.ref cT)=true) (eU:NoAttr K aG "text")
  (dI:W.findIn K (.ref aG) "is_next"=some (some (.ref bC))) (dB:K.lookup bC=some ⟨iT,iR,.func (W.fnOf "is_next" "Reading.is_next" (zp (zb (top 34) 1)) (zr (zb (top 34) 1)) (zy (zb (top 34) 1)) .none iW iZ iP jD cV jB),iN⟩) (dG:W.codeIn K cV "Reading.is_next"=true) (dD:W.keepIn K (.ref bC)=true) (cZ:W.isFn K (.ref bC)=true)
  (gS:W.findIn K (.ref aG) "skip"=some (some (.ref bG))) (gA:K.lookup bG=some ⟨kB,jZ,.func (W.fnOf "skip" "Reading.skip" (zp (zb (top 34) 2)) (zr (zb (top 34) 2)) (zy (zb (top 34) 2)) .none kD kI jX kM eY kK),jU⟩) (gO:W.codeIn K eY "Reading.skip"=true) (gD:W.keepIn K (.ref bG)=true) (fX:W.isFn K (.ref bG)=true)
  (cN:W.findIn K (.ref aG) "take_name"=some (some (.ref aX))) (cG:K.lookup aX=some ⟨fW,fU,.func (W.fnOf "take_name" "Reading.take_name" (zp (zb (top 34) 3)) (zr (zb (top 34) 3)) (zy (zb (top 34) 3)) .none gF gJ fS gR bX gL),fQ⟩) (cL:W.codeIn K bX "Reading.take_name"=true) (cI:W.keepIn K (.ref aX)=true) (cE:W.isFn K (.ref aX)=true)
  (dH:W.findIn K (.ref aG) "take_if"=some (some (.ref bB))) (dA:K.lookup bB=some ⟨iS,iQ,.func (W.fnOf "take_if" "Reading.take_if" (zp (zb (top 34) 4)) (zr (zb (top 34) 4)) (zy (zb (top 34) 4)) .none iV iY iO jC cU jA),iM⟩) (dF:W.codeIn K cU "Reading.take_if"=true) (dC:W.keepIn K (.ref bB)=true) (cY:W.isFn K (.ref bB)=true)
  (cM:W.findIn K (.ref aG) "take_pair"=some (some (.ref aW))) (cF:K.lookup aW=some ⟨fV,fT,.func (W.fnOf "take_pair" "Reading.take_pair" (zp (zb (top 34) 5)) (zr (zb (top 34) 5)) (zy (zb (top 34) 5)) .none gE gI fR gQ bW gK),fP⟩) (cK:W.codeIn K bW "Reading.take_pair"=true) (cH:W.keepIn K (.ref aW)=true) (cD:W.isFn K (.ref aW)=true)
  (bO:W.findIn K (.ref aG) "take_saying"=some (some (.ref aU))) (bK:K.lookup aU=some ⟨dW,dU,.func (W.fnOf "take_saying" "Reading.take_saying" (zp (zb (top 34) 6)) (zr (zb (top 34) 6)) (zy (zb (top 34) 6)) .none dZ eB dS eE bH eC),dR⟩) (bN:W.codeIn K bH "Reading.take_saying"=true) (bM:W.keepIn K (.ref aU)=true) (bJ:W.isFn K (.ref aU)=true)
  (oU:W.nsIn K mainGlobals "BadRow"=some (some (.ref aR)))
  (oF:xIn K aR=true)
  (lE:W.findIn K (.ref aR) "__getattribute__"=some (some (.builtin "BaseException.__getattribute__")))
  (lB:W.findIn K (.ref aR) "__getattr__"=some none)
  (kS:W.findIn K (.ref aR) "__setattr__"=some (some (.builtin "object.__setattr__")))
  (kX:W.mroIn K aR (.type "BaseException")=some true)
  (kU:W.mroIn K aR (.type "object")=some true)
  (kZ:W.keepIn K (.ref aR)=true)
  (lL:W.findIn K (.ref aR) "__class__"=some (some (.builtin "object.__class__")))
  (lI:W.specialIn K (.builtin "object.__class__") "__get__"=some (some (.builtin "getset_descriptor.__get__")))
  (lG:W.takesIn K (.builtin "object.__class__")=some true)
  (iK:W.findIn K (.ref aR) "__init__"=some (some (.ref bT))) (iC:K.lookup bT=some ⟨lW,lV,.func (W.fnOf "__init__" "BadRow.__init__" (zp (zb (top 4) 0)) (zr (zb (top 4) 0)) (zy (zb (top 4) 0)) .none mC mJ lU mW gM mK),lQ⟩) (iJ:W.codeIn K gM "BadRow.__init__"=true) (iD:W.keepIn K (.ref bT)=true) (iB:W.typeIn K (.ref bT)=some (.type "function")) (fO:W.takerIn K aR "number"=some none) (lX:NoAttr K aR "number")
  (iI:W.nsIn K mainGlobals "JudgeError"=some (some (.ref aO)))
  (iA:xIn K aO=true)
  (fJ:W.findIn K (.ref aO) "__getattribute__"=some (some (.builtin "BaseException.__getattribute__")))
  (fH:W.findIn K (.ref aO) "__getattr__"=some none)
  (fD:W.findIn K (.ref aO) "__setattr__"=some (some (.builtin "object.__setattr__")))
  (fF:W.mroIn K aO (.type "BaseException")=some true)
  (fE:W.mroIn K aO (.type "object")=some true)
  (fG:W.keepIn K (.ref aO)=true)
  (fN:W.findIn K (.ref aO) "__class__"=some (some (.builtin "object.__class__")))
  (fM:W.specialIn K (.builtin "object.__class__") "__get__"=some (some (.builtin "getset_descriptor.__get__")))
  (fL:W.takesIn K (.builtin "object.__class__")=some true)
  (gN:W.nsIn K mainGlobals "OutOfBounds"=some (some (.ref aI)))
  (fC:xIn K aI=true)
  (eP:W.findIn K (.ref aI) "__getattribute__"=some (some (.builtin "BaseException.__getattribute__")))
  (eO:W.findIn K (.ref aI) "__getattr__"=some none)
  (eJ:W.findIn K (.ref aI) "__setattr__"=some (some (.builtin "object.__setattr__")))
  (eM:W.mroIn K aI (.type "BaseException")=some true)
  (eL:W.mroIn K aI (.type "object")=some true)
  (eN:W.keepIn K (.ref aI)=true)
  (eS:W.findIn K (.ref aI) "__class__"=some (some (.builtin "object.__class__")))
  (eR:W.specialIn K (.builtin "object.__class__") "__get__"=some (some (.builtin "getset_descriptor.__get__")))
  (eQ:W.takesIn K (.builtin "object.__class__")=some true)
  (fK:W.excIn K aI vbm "ValueError.__new__"=true)
  (sO:W.nsIn K mainGlobals "Even"=some (some (.ref bI)))
  (rZ:xIn K bI=true)
  (pU:W.findIn K (.ref bI) "__getattribute__"=some (some (.builtin "BaseException.__getattribute__")))
  (pT:W.findIn K (.ref bI) "__getattr__"=some none)
  (pP:W.findIn K (.ref bI) "__setattr__"=some (some (.builtin "object.__setattr__")))
  (pR:W.mroIn K bI (.type "BaseException")=some true)
  (pQ:W.mroIn K bI (.type "object")=some true)
  (pS:W.keepIn K (.ref bI)=true)
  (pX:W.findIn K (.ref bI) "__class__"=some (some (.builtin "object.__class__")))
  (pW:W.specialIn K (.builtin "object.__class__") "__get__"=some (some (.builtin "getset_descriptor.__get__")))
  (pV:W.takesIn K (.builtin "object.__class__")=some true)
  (sA:W.excIn K bI vbm "ValueError.__new__"=true)
  (oR:W.nsIn K mainGlobals "NoText"=some (some (.ref aN)))
  (oE:xIn K aN=true)
  (lC:W.findIn K (.ref aN) "__getattribute__"=some (some (.builtin "BaseException.__getattribute__")))
  (lA:W.findIn K (.ref aN) "__getattr__"=some none)
  (kR:W.findIn K (.ref aN) "__setattr__"=some (some (.builtin "object.__setattr__")))
  (kW:W.mroIn K aN (.type "BaseException")=some true)
  (kT:W.mroIn K aN (.type "object")=some true)
  (kY:W.keepIn K (.ref aN)=true)
  (lK:W.findIn K (.ref aN) "__class__"=some (some (.builtin "object.__class__")))
  (lH:W.specialIn K (.builtin "object.__class__") "__get__"=some (some (.builtin "getset_descriptor.__get__")))
  (lF:W.takesIn K (.builtin "object.__class__")=some true)
  (oG:W.excIn K aN vbm "ValueError.__new__"=true)
  (oS:W.nsIn K mainGlobals "Barred"=some (some (.ref mU)))
  (eV:W.nsIn K mainGlobals "MOST_SAYINGS"=some (some (.int 6 lO)))
  (iH:W.nsIn K mainGlobals "MOST_NAMES"=some (some (.int 5 oX)))
  (gG:W.nsIn K mainGlobals "MOST_PIECES"=some (some (.int 40 nR)))
  (gH:W.nsIn K mainGlobals "MOST_JUDGES"=some (some (.int 21 nS)))
  (eW:W.nsIn K mainGlobals "LONGEST_NAME"=some (some (.int 6 lP)))
  (dQ:W.nsIn K mainGlobals "SMALL_LETTERS"=some (some (.str "abcdefghijklmnopqrstuvwxyz" jT)))
  (qH:W.nsIn K mainGlobals "WORDS"=some (some (.ref sP)))
  (sG:K.lookup sP=some ⟨.type "tuple",BG,.seq #[.str "not" BC,.str "and" BB,.str "or" BA,.str "if" AZ,.str "then" AY,.str "say" AX,.str "judge" AW] BD,BE⟩)
  (oO:W.nsIn K mainGlobals "TRUTHS"=some (some (.ref mT)))
  (qC:K.lookup mT=some ⟨.type "dict",none,.dict oP AC,#[]⟩) (pZ:oP=#[⟨hashStr w "y",.str "y" sT,.bool true⟩,⟨hashStr w "n",.str "n" sS,.bool false⟩]) (qB:(mT==sysModules)=false)
  (dM:NoAttr K aG "place")
  (cX:NoAttr K aG "pieces")
  (dN:W.kitOne K (.ref aN) (.ref aN)=some true)
  (bL:W.kitOne K (.ref aN) (.ref aI)=some false)
  (dP:W.kitOne K (.ref aN) (.ref aR)=some false)
  (gC:W.kitOne K (.ref aN) (.ref bI)=some false)
  (dO:W.kitOne K (.ref aN) (.ref mU)=some false)
  (bV:W.kitOne K (.ref aN) (.type "ValueError")=some true)
  (bU:W.mroIn K aN (.ref aO)=some true)
  (DY:W.nsIn K mainGlobals "len"=some none)
  (rY:W.nsIn K mainGlobals "range"=some none)
  (rX:W.nsIn K mainGlobals "tuple"=some none)
  (AS:W.nsIn K mainGlobals "list"=some none)
  (pO:W.nsIn K mainGlobals "sorted"=some none)
  (DV:W.nsIn K mainGlobals "set"=some none)
  (jP:W.nsIn K mainGlobals "enumerate"=some none)
  (jG:W.nsIn K mainGlobals "isinstance"=some none)
  (AT:W.nsIn K mainGlobals "bool"=some none)
  (DZ:W.nsIn K mainGlobals "int"=some none)
  (DU:W.nsIn K mainGlobals "str"=some none)
  (EA:W.nsIn K mainGlobals "all"=some none)
  (D':W.nsIn K mainGlobals "any"=some none)
  (DT:W.nsIn K mainGlobals "sum"=some none)
  (DS:W.nsIn K mainGlobals "zip"=some none)
  (DW:W.nsIn K mainGlobals "min"=some none)
  (DX:W.nsIn K mainGlobals "max"=some none)
  (jH:W.nsIn K mainGlobals "ValueError"=some none) :
  ∃fd:FuncData,(∀(s:Shared)(v:Value),BindsTo s fd ⟨[v],[]⟩ [("_law_script",v)])/\∀base:Heap,K.In base->base.Ns mainGlobals mg->vc l.prog w K mg base CX0 136 fa fd ["_law_script"] (Vo K):=by
 have e:=hfa.symm.trans (yA X G GG);cases e;have qK:Def K mg "pieces_in" (top 8) ["saying"]:=y8 X G a_8 l_8 c_8 k_8 λ_ _ _ _ _ _ us hl=>by obtain⟨_,e⟩:=mm hl;rw[e];rfl
 have pD:Def K mg "letters_in" (top 9) ["saying"]:=y8 X G a_9 l_9 c_9 k_9 λ_ _ _ _ _ _ us hl=>by obtain⟨_,e⟩:=mm hl;rw[e];rfl
 have rG:Def K mg "names_in" (top 10) ["saying"]:=y8 X G a_10 RF ZE SO λ_ _ _ _ _ _ us hl=>by obtain⟨_,e⟩:=mm hl;rw[e];rfl
 have DM:Def K mg "is_so" (top 11) ["saying","held"]:=y8 X G a_11 RE ZD SN λ_ _ _ _ _ _ us hl=>by obtain⟨_,_,e⟩:=ro hl;rw[e];rfl
 have mX:Def K mg "ways_to_hold" (top 13) ["names"]:=y8 X G a_13 RD ZC SM λ_ _ _ _ _ _ us hl=>by obtain⟨_,e⟩:=mm hl;rw[e];rfl
 have AE:Def K mg "held_by" (top 14) ["number","names"]:=y8 X G a_14 RC ZB SK λ_ _ _ _ _ _ us hl=>by obtain⟨_,_,e⟩:=ro hl;rw[e];rfl
 have mY:Def K mg "names_of" (top 16) ["sayings"]:=y8 X G a_16 RB Y' SJ λ_ _ _ _ _ _ us hl=>by obtain⟨_,e⟩:=mm hl;rw[e];rfl
 have rP:Def K mg "all_held" (top 17) ["sayings"]:=y8 X G a_17 RA YZ SI λ_ _ _ _ _ _ us hl=>by obtain⟨_,e⟩:=mm hl;rw[e];rfl
 have CC:Def K mg "row_of" (top 18) ["sayings","held"]:=y8 X G a_18 QZ YY SH λ_ _ _ _ _ _ us hl=>by obtain⟨_,_,e⟩:=ro hl;rw[e];rfl
 have rO:Def K mg "fit_rows" (top 19) ["sayings"]:=y8 X G a_19 QY YX SG λ_ _ _ _ _ _ us hl=>by obtain⟨_,e⟩:=mm hl;rw[e];rfl
 have nB:Def K mg "check_bounds" (top 25) ["sayings","judges"]:=y8 X G a_25 QX YW SE λ_ _ _ _ _ _ us hl=>by obtain⟨_,_,e⟩:=ro hl;rw[e];rfl
 have rN:Def K mg "is_among" (top 26) ["rows","row"]:=y8 X G a_26 QW YV SD λ_ _ _ _ _ _ us hl=>by obtain⟨_,_,e⟩:=ro hl;rw[e];rfl
 have pG:Def K mg "check_rows" (top 27) ["sayings","judges"]:=y8 X G a_27 QV YU SA λ_ _ _ _ _ _ us hl=>by obtain⟨_,_,e⟩:=ro hl;rw[e];rfl
 have CB:Def K mg "seated" (top 28) ["sayings","judges"]:=y8 X G a_28 QU YT RZ λ_ _ _ _ _ _ us hl=>by obtain⟨_,_,e⟩:=ro hl;rw[e];rfl
 have pF:Def K mg "check_text" (top 35) ["text"]:=y8 X G a_35 QT YS RY λ_ _ _ _ _ _ us hl=>by obtain⟨_,e⟩:=mm hl;rw[e];rfl
 have nW:Def K mg "read_saying" (top 36) ["text"]:=y8 X G a_36 QS YR RX λ_ _ _ _ _ _ us hl=>by obtain⟨_,e⟩:=mm hl;rw[e];rfl
 have rF:Def K mg "read_row" (top 37) ["line","many"]:=y8 X G a_37 QQ YQ RW λ_ _ _ _ _ _ us hl=>by obtain⟨_,_,e⟩:=ro hl;rw[e];rfl
 have JF:Def K mg "read" (top 38) ["text"]:=y8 X G a_38 QP YO RV λ_ _ _ _ _ _ us hl=>by obtain⟨_,e⟩:=mm hl;rw[e];rfl
 have rM:Def K mg "_law_cell" (top 40) ["_law_script","_law_k"]:=y8 X G a_40 QO YN RU λ_ _ _ _ _ _ us hl=>by obtain⟨_,_,e⟩:=ro hl;rw[e];rfl
 have rK:Def K mg "_law_pick" (top 41) ["_law_script","_law_k","_law_many"]:=y8 X G a_41 QN YM RT λ_ _ _ _ _ _ us hl=>by obtain⟨_,_,_,e⟩:=Wm hl;rw[e];rfl
 have rJ:Def K mg "_law_safe" (top 42) ["_law_name"]:=y8 X G a_42 QM YL RS λ_ _ _ _ _ _ us hl=>by obtain⟨_,e⟩:=mm hl;rw[e];rfl
 have qL:Def K mg "_law_names" (top 43) ["_law_script","_law_k","_law_many"]:=y8 X G a_43 QL YK RQ λ_ _ _ _ _ _ us hl=>by obtain⟨_,_,_,e⟩:=Wm hl;rw[e];rfl
 have rH:Def K mg "_law_same" (top 44) ["_law_found","_law_due"]:=y8 X G a_44 QK YJ RP λ_ _ _ _ _ _ us hl=>by obtain⟨_,_,e⟩:=ro hl;rw[e];rfl
 have nX:Def K mg "_law_refused" (top 45) ["_law_text","_law_whole"]:=y8 X G a_45 QJ YI RO λ_ _ _ _ _ _ us hl=>by obtain⟨_,_,e⟩:=ro hl;rw[e];rfl
 have nA:Def K mg "_law_by_blank" (top 46) ["_law_way","_law_x","_law_y"]:=y8 X G a_46 QI YH RN λ_ _ _ _ _ _ us hl=>by obtain⟨_,_,_,e⟩:=Wm hl;rw[e];rfl
 have qM:Def K mg "_law_by_if" (top 47) ["_law_way","_law_x","_law_y"]:=y8 X G a_47 QH YG RM λ_ _ _ _ _ _ us hl=>by obtain⟨_,_,_,e⟩:=Wm hl;rw[e];rfl
 have nZ:Def K mg "_law_by_name" (top 48) ["_law_way","_law_x"]:=y8 X G a_48 QG YF RL λ_ _ _ _ _ _ us hl=>by obtain⟨_,_,e⟩:=ro hl;rw[e];rfl
 have nY:Def K mg "_law_by_size" (top 49) ["_law_way","_law_x"]:=y8 X G a_49 QF YE RK λ_ _ _ _ _ _ us hl=>by obtain⟨_,_,e⟩:=ro hl;rw[e];rfl
 have pE:Def K mg "_law_within" (top 50) ["_law_way","_law_x","_law_told"]:=y8 X G a_50 QE YD RJ λ_ _ _ _ _ _ us hl=>by obtain⟨_,_,_,e⟩:=Wm hl;rw[e];rfl
 have rL:Def K mg "_law_pair" (top 51) ["_law_script","_law_k","_law_x","_law_y"]:=y8 X G a_51 QD YC RI λ_ _ _ _ _ _ us hl=>by obtain⟨_,_,_,_,e⟩:=A9 hl;rw[e];rfl
 have mZ:Def K mg "_law_by_lines" (top 52) ["_law_way","_law_x","_law_y"]:=y8 X G a_52 QC YB RH λ_ _ _ _ _ _ us hl=>by obtain⟨_,_,_,e⟩:=Wm hl;rw[e];rfl
 have iU:=yA X G mS;have bE:Cls K aG:=⟨mR,mQ,mM,mL⟩
 have nD:DefN K aG "Reading.__init__" (zb (top 34) 0) ["self","text"] []:=Lh gT gB gP fY mO mP (.all λus hl=>by obtain⟨_,_,e⟩:=ro hl;rw[e];rfl) (.all λus hl=>by obtain⟨_,_,e⟩:=ro hl;rw[e];rfl);have jL:DefM K aG "is_next" "Reading.is_next" (zb (top 34) 1) ["self","signs"]:=qr dI dB dG dD cZ bE λ_ _ _ _ _ _ us hl=>match us,hl with|[_,_],_=>rfl
 have nC:DefM K aG "skip" "Reading.skip" (zb (top 34) 2) ["self","signs"]:=qr gS gA gO gD fX bE λ_ _ _ _ _ _ us hl=>match us,hl with|[_,_],_=>rfl
 have hU:DefM K aG "take_name" "Reading.take_name" (zb (top 34) 3) ["self"]:=qr cN cG cL cI cE bE λ_ _ _ _ _ _ us hl=>match us,hl with|[_],_=>rfl
 have jK:DefM K aG "take_if" "Reading.take_if" (zb (top 34) 4) ["self"]:=qr dH dA dF dC cY bE λ_ _ _ _ _ _ us hl=>match us,hl with|[_],_=>rfl
 have gZ:DefM K aG "take_pair" "Reading.take_pair" (zb (top 34) 5) ["self"]:=qr cM cF cK cH cD bE λ_ _ _ _ _ _ us hl=>match us,hl with|[_],_=>rfl
 have fA:DefM K aG "take_saying" "Reading.take_saying" (zb (top 34) 6) ["self"]:=qr bO bK bN bM bJ bE λ_ _ _ _ _ _ us hl=>match us,hl with|[_],_=>rfl
 have bQ:=yA X G oU;have lM:XCls K aR:=pj oF lE lB kS kX kU kZ lL lI lG;have oA:DefI K aR "BadRow.__init__" (zb (top 4) 0) ["self","number"]:=Lg iK iC iJ iD iB lM λ_ _ _ _ _ _ us hl=>by obtain⟨_,_,e⟩:=ro hl;rw[e];rfl
 have bS:=yA X G iI;have cP:XCls K aO:=pj iA fJ fH fD fF fE fG fN fM fL;have aM:=yA X G gN;have nQ:XCls K aI:=pj fC eP eO eJ eM eL eN eS eR eQ;have aT:v9 K aI:=⟨nQ,fK⟩
 have dY:=yA X G sO;have GH:XCls K bI:=pj rZ pU pT pP pR pQ pS pX pW pV;have kQ:v9 K bI:=⟨GH,sA⟩
 have aF:=yA X G oR;have pY:XCls K aN:=pj oE lC lA kR kW kT kY lK lH lF;have aC:v9 K aN:=⟨pY,oG⟩
 have gX:=yA X G oS;have cB:=yA X G eV;have dJ:=yA X G iH;have aS:=yA X G gG;have cR:=yA X G gH;have cC:=yA X G eW;have bP:=yA X G dQ;have lZ:=yA X G qH;have gW:=yA X G oO;have aD:=yO X G DY;have aQ:=yO X G rY;have aH:=yO X G rX;have jI:=yO X G AS;have aV:=yO X G pO;have cA:=yO X G DV;have dX:=yO X G jP;have aA:=yO X G jG;have cQ:=yO X G AT;have lY:=yO X G DZ;have fZ:=yO X G DU;have qV:=yO X G EA;have qU:=yO X G D';have mg_sum:=yO X G DT;have oY:=yO X G DS;have qR:=yO X G DW;have qT:=yO X G DX;have bR:=yO X G jH;have F_law:=Z3 (st:=top 53) EH GD EI;refine⟨W.fnOf "law" "law" (zp (top 53)) (zr (top 53)) (zy (top 53)) .none BH BZ BF CA rE B',λs v=>.of_eq rfl,λbase _ _=>?_⟩;have JK:=L8 (P:=l.prog) (w:=w) (base:=base) rM aD;have rR:=Ma rK JK;have DQ:=Pw qL rR (Mc rJ) aD aQ;have C_so:=Y5 (P:=l.prog) (w:=w) (base:=base) DM 40;have oW:=Xi (P:=l.prog) (w:=w) (base:=base) rG (kf pD 40) aV cA aH;have AG:=Xj mY oW aV cA aH;have CF:=Tj mY oW aV cA aH;have CG:=Tg (P:=l.prog) (w:=w) (base:=base) AE aH;have AI:=Xd rP AG CG (Me mX) aQ;have DO:=Py CC C_so aH;have C_fit:=Xh rO AI DO aV cA;have C_cb:=D8 nB (ck (P:=l.prog) (w:=w) (base:=base) qK 130) CF aT aM cB dJ aS cR aD qU;have DR:=Pq (P:=l.prog) (w:=w) (base:=base) rN qV aA cQ;have JM:=Xf (P:=l.prog) (w:=w) (mg:=mg) (base:=base) oA lM fO;have C_cr:=D9 pG C_fit DR JM bQ lM dX;have nF:=Tn CB C_cb C_cr kQ dY aD;have rc:RdC K aG:=⟨bE,eU,dM,cX⟩
 have qP:=Th (P:=l.prog) (w:=w) (mg:=mg) (base:=base) jL rc;have JH:=Md nC rc qP aC aF aD;have DN:=Pz (P:=l.prog) (w:=w) (mg:=mg) (base:=base) hU rc aC aF bP cC lZ (Ug sG) aD;have JG:=U5 jK gZ fA rc qP JH DN aC aF aS 41;have sR:=Pt (P:=l.prog) (w:=w) (base:=base) pF aC aF aA fZ;have pH:=Px nW rc sR (Tl nD rc) iU JG aC aF aD;have C_row:=Ib (P:=l.prog) (w:=w) (base:=base) rF aC aF gW (Z2 qC pZ qB) aD aH;have jO:=Mb JF sR pH C_row nF aC aF aD aH;have JI:=U4 (P:=l.prog) (w:=w) (base:=base) rH aD aA aH jI cQ lY fZ oY 43;have kn:Cc K aO aN aI aR bI mU:=⟨pY,bU,dN,bL,dP,gC,dO,bV⟩
 have AF:=Xk nX jO pH cP kn bS aM bQ dY aF gX bR aA;have JJ:=L9 rL rR (Tf nY aQ) (Te nZ aD) (Ps nA aD) (L7 qM aD) (Mf pE);exact Hz F_law rR DQ JJ (Xg mZ aD) AF JI jO pH aD aQ qT qR
theorem walk{l:W.OpenLaw}{q:Program}{oH:List Str}{XP:(Str->Option Value)->Heap->Prop}{YP:World->Heap->Prop}{d:DefRec}{K:Params->W.Frag}(hn:l.most=some 63)(VA:d.params.defaults=[])
  (hY:∀(w:World)(h:Heap),YP w h->(K w.params).In h)
  (F:∀(w:World)(mg:Str->Option Value)(fa:Addr)(h:Heap),(K w.params).In h->h.Ns mainGlobals mg->mg d.name=some (.ref fa) ->
   ∃fd:FuncData,(∀(s:Shared)(u:Value),BindsTo s fd ⟨[u],[]⟩ [("_law_script",u)])/\∀base:Heap,(K w.params).In base->base.Ns mainGlobals mg->vc l.prog w (K w.params) mg base CX0 136 fa fd ["_law_script"] (Vo (K w.params))) :
  W.WalkO q oH XP YP l.row.toRowW d [] (λf vs=>PySem.call f vs) :=
 L2.walk_of (n:=63) (k:=136) (x:="_law_script") (CX:=λ_=>CX0) (sp:=λw=>Vo (K w.params)) hn (by decide) VA ⟨rfl,by decide,by decide⟩ hY F (λ_ _ a ns hl _ hS=>⟨a,ns,rfl,hS,hl,λ_=>rfl⟩) λ_ _ _ _ _ z=>z
end Kx
open PySem PySem.W PyProof.Rows
set_option maxRecDepth 100000 in
set_option maxHeartbeats 0 in
theorem PySem.Challenge.cw_manyjudges_k62_no_text_holds : PySem.Challenge.rw_manyjudges_k62_no_text.Holds := by
 w_on;o_law;k_head;(case hw=>w_witness2)
 k_fill
 refine Kx.walk (l:=PySem.Challenge.rw_manyjudges_k62_no_text) rfl rfl (λw h Y=>W.kIn_of Y) ?F
 case F =>
  intro w mg fa h KX G UN;refine' Kx.all_mk KX G UN ?a_8 ?l_8 ?c_8 ?k_8 ?a_9 ?l_9 ?c_9 ?k_9 ?a_10 ?RF ?ZE ?SO ?a_11 ?RE ?ZD ?SN ?a_13 ?RD ?ZC ?SM ?a_14 ?RC ?ZB ?SK ?a_16 ?RB ?Y' ?SJ ?a_17 ?RA ?YZ ?SI ?a_18 ?QZ ?YY ?SH ?a_19 ?QY ?YX ?SG ?a_25 ?QX ?YW ?SE ?a_26 ?QW ?YV ?SD ?a_27 ?QV ?YU ?SA ?a_28 ?QU ?YT ?RZ ?a_35 ?QT ?YS ?RY ?a_36 ?QS ?YR ?RX ?a_37 ?QQ ?YQ ?RW ?a_38 ?QP ?YO ?RV ?a_40 ?QO ?YN ?RU ?a_41 ?QN ?YM ?RT ?a_42 ?QM ?YL ?RS ?a_43 ?QL ?YK ?RQ ?a_44 ?QK ?YJ ?RP ?a_45 ?QJ ?YI ?RO ?a_46 ?QI ?YH ?RN ?a_47 ?QH ?YG ?RM ?a_48 ?QG ?YF ?RL ?a_49 ?QF ?YE ?RK ?a_50 ?QE ?YD ?RJ ?a_51 ?QD ?YC ?RI ?a_52 ?QC ?YB ?RH ?GG ?EH ?GD ?EI ?mS ?mO ?mP ?mR ?mQ ?mM ?mL ?gT ?gB ?gP ?fY ?eU ?dI ?dB ?dG ?dD ?cZ ?gS ?gA ?gO ?gD ?fX ?cN ?cG ?cL ?cI ?cE ?dH ?dA ?dF ?dC ?cY ?cM ?cF ?cK ?cH ?cD ?bO ?bK ?bN ?bM ?bJ ?oU ?oF ?lE ?lB ?kS ?kX ?kU ?kZ ?lL ?lI ?lG ?iK ?iC ?iJ ?iD ?iB ?fO ?lX ?iI ?iA ?fJ ?fH ?fD ?fF ?fE ?fG ?fN ?fM ?fL ?gN ?fC ?eP ?eO ?eJ ?eM ?eL ?eN ?eS ?eR ?eQ ?fK ?sO ?rZ ?pU ?pT ?pP ?pR ?pQ ?pS ?pX ?pW ?pV ?sA ?oR ?oE ?lC ?lA ?kR ?kW ?kT ?kY ?lK ?lH ?lF ?oG ?oS ?eV ?iH ?gG ?gH ?eW ?dQ ?qH ?sG ?oO ?qC ?pZ ?qB ?dM ?cX ?dN ?bL ?dP ?gC ?dO ?bV ?bU ?DY ?rY ?rX ?AS ?pO ?DV ?jP ?jG ?AT ?DZ ?DU ?EA ?D' ?DT ?DS ?DW ?DX ?jH
  (case a_8=>k_is);(case l_8=>k_is);(case c_8=>k_is);(case k_8=>k_is)
  (case a_9=>k_is);(case l_9=>k_is);(case c_9=>k_is);(case k_9=>k_is)
  (case a_10=>k_is);(case RF=>k_is);(case ZE=>k_is);(case SO=>k_is)
  (case a_11=>k_is);(case RE=>k_is);(case ZD=>k_is);(case SN=>k_is)
  (case a_13=>k_is);(case RD=>k_is);(case ZC=>k_is);(case SM=>k_is)
  (case a_14=>k_is);(case RC=>k_is);(case ZB=>k_is);(case SK=>k_is)
  (case a_16=>k_is);(case RB=>k_is);(case Y'=>k_is);(case SJ=>k_is)
  (case a_17=>k_is);(case RA=>k_is);(case YZ=>k_is);(case SI=>k_is)
  (case a_18=>k_is);(case QZ=>k_is);(case YY=>k_is);(case SH=>k_is)
  (case a_19=>k_is);(case QY=>k_is);(case YX=>k_is);(case SG=>k_is)
  (case a_25=>k_is);(case QX=>k_is);(case YW=>k_is);(case SE=>k_is)
  (case a_26=>k_is);(case QW=>k_is);(case YV=>k_is);(case SD=>k_is)
  (case a_27=>k_is);(case QV=>k_is);(case YU=>k_is);(case SA=>k_is)
  (case a_28=>k_is);(case QU=>k_is);(case YT=>k_is);(case RZ=>k_is)
  (case a_35=>k_is);(case QT=>k_is);(case YS=>k_is);(case RY=>k_is)
  (case a_36=>k_is);(case QS=>k_is);(case YR=>k_is);(case RX=>k_is)
  (case a_37=>k_is);(case QQ=>k_is);(case YQ=>k_is);(case RW=>k_is)
  (case a_38=>k_is);(case QP=>k_is);(case YO=>k_is);(case RV=>k_is)
  (case a_40=>k_is);(case QO=>k_is);(case YN=>k_is);(case RU=>k_is)
  (case a_41=>k_is);(case QN=>k_is);(case YM=>k_is);(case RT=>k_is)
  (case a_42=>k_is);(case QM=>k_is);(case YL=>k_is);(case RS=>k_is)
  (case a_43=>k_is);(case QL=>k_is);(case YK=>k_is);(case RQ=>k_is)
  (case a_44=>k_is);(case QK=>k_is);(case YJ=>k_is);(case RP=>k_is)
  (case a_45=>k_is);(case QJ=>k_is);(case YI=>k_is);(case RO=>k_is)
  (case a_46=>k_is);(case QI=>k_is);(case YH=>k_is);(case RN=>k_is)
  (case a_47=>k_is);(case QH=>k_is);(case YG=>k_is);(case RM=>k_is)
  (case a_48=>k_is);(case QG=>k_is);(case YF=>k_is);(case RL=>k_is)
  (case a_49=>k_is);(case QF=>k_is);(case YE=>k_is);(case RK=>k_is)
  (case a_50=>k_is);(case QE=>k_is);(case YD=>k_is);(case RJ=>k_is)
  (case a_51=>k_is);(case QD=>k_is);(case YC=>k_is);(case RI=>k_is)
  (case a_52=>k_is);(case QC=>k_is);(case YB=>k_is);(case RH=>k_is)
  (case GG=>k_is);(case EH=>k_is);(case GD=>k_is);(case EI=>k_is)
  (case mS=>k_is);(case mO=>k_is);(case mP=>k_is);(case mR=>k_is);(case mQ=>k_is);(case mM=>k_is);(case mL=>k_is)
  (case gT=>k_is);(case gB=>k_is);(case gP=>k_is);(case fY=>k_is);(case eU=>(show W.findIn _ _ _=_;k_is))
  (case dI=>k_is);(case dB=>k_is);(case dG=>k_is);(case dD=>k_is);(case cZ=>k_is)
  (case gS=>k_is);(case gA=>k_is);(case gO=>k_is);(case gD=>k_is);(case fX=>k_is)
  (case cN=>k_is);(case cG=>k_is);(case cL=>k_is);(case cI=>k_is);(case cE=>k_is)
  (case dH=>k_is);(case dA=>k_is);(case dF=>k_is);(case dC=>k_is);(case cY=>k_is)
  (case cM=>k_is);(case cF=>k_is);(case cK=>k_is);(case cH=>k_is);(case cD=>k_is)
  (case bO=>k_is);(case bK=>k_is);(case bN=>k_is);(case bM=>k_is);(case bJ=>k_is)
  (case oU=>k_is)
  (case oF=>kernel_rfl);(case lE=>k_is);(case lB=>k_is);(case kS=>k_is);(case kX=>k_is);(case kU=>k_is);(case kZ=>k_is);(case lL=>k_is);(case lI=>k_is);(case lG=>k_is)
  (case iK=>k_is);(case iC=>k_is);(case iJ=>k_is);(case iD=>k_is);(case iB=>k_is);(case fO=>k_is);(case lX=>(show W.findIn _ _ _=_;k_is))
  (case iI=>k_is)
  (case iA=>kernel_rfl);(case fJ=>k_is);(case fH=>k_is);(case fD=>k_is);(case fF=>k_is);(case fE=>k_is);(case fG=>k_is);(case fN=>k_is);(case fM=>k_is);(case fL=>k_is)
  (case gN=>k_is)
  (case fC=>kernel_rfl);(case eP=>k_is);(case eO=>k_is);(case eJ=>k_is);(case eM=>k_is);(case eL=>k_is);(case eN=>k_is);(case eS=>k_is);(case eR=>k_is);(case eQ=>k_is)
  (case fK=>kernel_rfl)
  (case sO=>k_is)
  (case rZ=>kernel_rfl);(case pU=>k_is);(case pT=>k_is);(case pP=>k_is);(case pR=>k_is);(case pQ=>k_is);(case pS=>k_is);(case pX=>k_is);(case pW=>k_is);(case pV=>k_is)
  (case sA=>kernel_rfl)
  (case oR=>k_is)
  (case oE=>kernel_rfl);(case lC=>k_is);(case lA=>k_is);(case kR=>k_is);(case kW=>k_is);(case kT=>k_is);(case kY=>k_is);(case lK=>k_is);(case lH=>k_is);(case lF=>k_is)
  (case oG=>kernel_rfl)
  (case oS=>k_is)
  (case eV=>k_is)
  (case iH=>k_is)
  (case gG=>k_is)
  (case gH=>k_is)
  (case eW=>k_is)
  (case dQ=>k_is)
  (case qH=>k_is)
  (case sG=>k_is)
  (case oO=>k_is)
  (case qC=>k_is);(case pZ=>rfl);(case qB=>rfl)
  (case dM=>(show W.findIn _ _ _=_;k_is))
  (case cX=>(show W.findIn _ _ _=_;k_is))
  (case dN=>kernel_rfl)
  (case bL=>kernel_rfl)
  (case dP=>kernel_rfl)
  (case gC=>kernel_rfl)
  (case dO=>kernel_rfl)
  (case bV=>kernel_rfl)
  (case bU=>k_is)
  (case DY=>k_is)
  (case rY=>k_is)
  (case rX=>k_is)
  (case AS=>k_is)
  (case pO=>k_is)
  (case DV=>k_is)
  (case jP=>k_is)
  (case jG=>k_is)
  (case AT=>k_is)
  (case DZ=>k_is)
  (case DU=>k_is)
  (case EA=>k_is)
  (case D'=>k_is)
  (case DT=>k_is)
  (case DS=>k_is)
  (case DW=>k_is)
  (case DX=>k_is)
  (case jH=>k_is)
#print axioms PySem.Challenge.cw_manyjudges_k62_no_text_holds
