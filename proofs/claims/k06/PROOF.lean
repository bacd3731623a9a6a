import PyProof.Rows.All
import Wide.All
import OpenK.AllK
import Wide.FinOn
import Lean
import PyProof.EqAt
import PyProof.EqKinds
import PyProof.TupleCall
import KE.KIntText
import PyProof.NeKinds
import KE.KDictList
import PyProof.Rows.SetFrom
import PyProof.WalksMore
import PyProof.AttrMissHeap
import PyProof.EnumFor
import PyProof.EnumMake
import PyProof.EnumStmt
import PyProof.LayNew
import PyProof.ZipIter
import PyProof.Draws
import PyProof.Rows.StrNews
import PyProof.ReprRoads
import PyProof.ReprLen
import PyProof.StrLawsRepr
import PyProof.StrLawsTight
import PyProof.StrLawsChain
import PyProof.Rows.StrSplitAre
import PyProof.Rows.Range3
import PyProof.ListTruth
import PyProof.WalkInts
import PyProof.Rows.StrPartPair
import PyProof.Rows.StrJoin2
import PyProof.Rows.StrNews2
import PyProof.Rows.StrLawsPart
import PyProof.Rows.StrFirst
import PyProof.Rows.SortWalk
import PyProof.Rows.SortStr
import PyProof.CollectWalk
import PyProof.DictIter
import PyProof.SetKind
import PyProof.SetRoads
import PyProof.DictWalks
import PyProof.ForAny
import PyProof.MakeMany
import PyProof.FactsAll.set
import PyProof.FString5
import PyProof.FactsAll.dict
import PyProof.Rows.SortShellK
import PyProof.FactsAll.bool
import PyProof.FactsAll.NoneType
import PySem.Challenge.RW_planstore_k06_makes_told
namespace PySem.W.Fast
def tw10490451148838820182:Nat:=0
def tw10698579699199940827:Nat:=0
def tw10945411964870981161:Nat:=0
def tw11084358110559972239:Nat:=0
def tw11409755922936009020:Nat:=0
def tw11594334416480998042:Nat:=0
def tw12397569758528498623:Nat:=0
def tw13553239699506158144:Nat:=0
def tw14972017980781026864:Nat:=0
def tw16096441044649814590:Nat:=0
def tw16456975996548379098:Nat:=0
def tw16700517690857944568:Nat:=0
def tw16895591477170876217:Nat:=0
def tw2229646645958435890:Nat:=0
def tw2379515801160094537:Nat:=0
def tw3698298053201002691:Nat:=0
def tw4388630636238182687:Nat:=0
def tw4959009250503799808:Nat:=0
def tw5017683217752403587:Nat:=0
def tw5359573427711417183:Nat:=0
def tw5607768597579465424:Nat:=0
def tw5623001800509400399:Nat:=0
def tw7074227911457317964:Nat:=0
def tw7921937856681423628:Nat:=0
def tw8690224353472944335:Nat:=0
def tw8759640557056397531:Nat:=0
def tw8779873148716213179:Nat:=0
def tw9148792165226550919:Nat:=0
def tw8496335516346383704:Nat:=0
def tw2793366719100062856:Nat:=0
def tw10781774004020069654:Nat:=0
def tw5174942768721406554:Nat:=0
def tw3249676025622396912:Nat:=0
def tw11958549913303467003:Nat:=0
def tw7790082126146097545:Nat:=0
def tw15655622862634617763:Nat:=0
def tw3119721638175425033:Nat:=0
def tw16179949433783243482:Nat:=0
def tw7723669896642295005:Nat:=0
def tw4327989372511820347:Nat:=0
def tw7704646153072355483:Nat:=0
def tw8048935843662278262:Nat:=0
def tw16485312189560365729:Nat:=0
def tw16286261542341388733:Nat:=0
def tw7499869718244404363:Nat:=0
def tw9790120286553198220:Nat:=0
def tw17252589161344641759:Nat:=0
def tw6815802762769577448:Nat:=0
def tw16813545372072483185:Nat:=0
def tw15446224332624872848:Nat:=0
def tw17516523338237376751:Nat:=0
def tw10460309643314503724:Nat:=0
def tw12891902963615088846:Nat:=0
def tw9318554834610507016:Nat:=0
def tw1209246695778408690:Nat:=0
def tw13667163695197875318:Nat:=0
def tw700205778385501456:Nat:=0
def tw6612450225847688843:Nat:=0
def tw12994645228381262197:Nat:=0
def tw4420040643232862117:Nat:=0
def tw5751591820300348929:Nat:=0
def tw9919293413408287229:Nat:=0
def tw9879502763580114172:Nat:=0
def tw15403841578253056511:Nat:=0
def tw1885048456683830874:Nat:=0
def tw11845685266726078469:Nat:=0
def tw7573116099252623451:Nat:=0
def tw853682751698953148:Nat:=0
def tw11082100156223303894:Nat:=0
def tw15365838675452747044:Nat:=0
def tw10377108488171223354:Nat:=0
def tw12680552785123583836:Nat:=0
def tw1097724015562139694:Nat:=0
def tw5242564195493837596:Nat:=0
def tw17878398138665652238:Nat:=0
def tw10342581447072924482:Nat:=0
def tw920768226619808398:Nat:=0
def tw15671161315916127654:Nat:=0
def tw805615444386867043:Nat:=0
def tw6335898988936126284:Nat:=0
def tw18320123536294676321:Nat:=0
def tw14716451659195798719:Nat:=0
def tw14412200361466528377:Nat:=0
def tw4621391948059554038:Nat:=0
def tw17709099090295017803:Nat:=0
def tw9589071812757520686:Nat:=0
def tw692233473742626797:Nat:=0
def tw4403267549033882448:Nat:=0
def tw15974107967245511855:Nat:=0
def tw1649972663043296783:Nat:=0
def tw3664339442425037109:Nat:=0
def tw17959151039830499715:Nat:=0
def tw14637220123220815645:Nat:=0
end PySem.W.Fast
open List renaming getElem?_eq_getElem -> yaa, length_map -> yab, getElem?_map -> yaf, mem_singleton -> yai, map_append -> yak, mem_cons_of_mem -> yal, getElem_mem -> yam, mem_map -> yao, take_succ_eq_append_getElem -> yap, mem_append -> yau, getElem?_eq_some_iff -> yav, map_cons -> yaw, mem_cons_self -> yax, length_take -> yaA, size_toArray -> yaE, take_length -> yaG, mem_cons -> yaJ, length_append -> yaK, mem_append_right -> yaN, getD_eq_getElem?_getD -> yaT, map_map -> yaU, all_eq_true -> yaX, length_cons -> ya4, lookup_cons -> ybc, mem_append_left -> ybe, length_drop -> ybk, getElem_map -> ybl, nodup_cons -> ybm, find?_cons_of_neg -> ybn, mem_iff_getElem -> ybo, nodup_append -> ybq, find?_cons -> ybw, mem_flatMap -> ybO, getElem?_eq_none -> ybV, replicate -> ybZ, take_succ -> yb1, getElem_inj -> yb4, not_mem_nil -> yb7, filterMap_cons -> yb9, length -> ycb, nodup_nil -> yce, append_nil -> ych, mem_filterMap -> yco, exists_cons_of_length_eq_add_one -> yct, mem_of_mem_take -> ycu, getElem?_append_right -> ycD, range -> ycE, length_replicate -> ycL, getElem?_append_left -> ycS, mem_of_getElem? -> ycV, mem_of_mem_drop -> ycX, forIn_cons -> yc2, append_assoc -> yc3, filter_cons_of_neg -> ydf, filter_cons_of_pos -> ydg, mem_range -> ydn, take_of_length_le -> ydr, map_nil -> ydv, all_map -> ydx, length_zip -> ydC, eq_nil_or_concat -> ydD, concat_eq_append -> ydE, take_sublist -> ydG, any_cons -> ydH, pairwise_map -> ydL, getLast?_concat -> ydP, dropLast_concat -> ydQ, mem_take_iff_getElem -> ydT, forIn_nil -> ydV, drop_eq_getElem_cons -> ydY, any_eq_true -> yd1, map_reverse -> yd2, length_reverse -> yd5, replicate_succ -> yd6, map_congr_left -> yd8, length_filterMap_le -> yee, of_mem_zip -> yeh, length_nil -> yek, getElem?_drop -> yem, length_eq_zero_iff -> yer, map_drop -> yes, head?_eq_getElem? -> yew, lookup -> yez, reverse_cons -> yeE, eq_nil_of_length_eq_zero -> yeY, mem_reverse -> ye0, mem_filter -> ye6, filter_sublist -> yfg, flatMap_append -> yfh, exists_cons_of_ne_nil -> yfl, flatten_cons -> yfC, foldl_append -> yfJ, flatMap_cons -> yfK
open PySem renaming wpAny_bind -> yac, Value -> yae, Shared -> yag, wpAny_pure -> yah, Program -> yas, Around -> yaM, sizeLine -> yaO, World -> yaS, mainGlobals -> yaV, starEach -> yaZ, wpAny_holding -> ya1, compareOp -> yba, bootBuiltins -> ybf, wpAny_call_entry -> ybi, wpAny_truthy_bool -> ybj, sysModules -> ybz, wpAny_callSpecial?_slot -> ybB, wpAny_dictEntries -> ybC, wpAny_field -> ybE, tupleKeyHash -> ybI, wpAny_mono -> ybJ, wpAny_newObj_type -> ybQ, wpAny_seqItems -> yb0, wpAny_specialOf -> yci, codeAny_builtin -> yck, tupleKind_room_in1 -> ycp, wpAny_typeNameOfWhole_keyiter -> ycs, attributeBase -> ycv, tupleKind -> ycJ, wpAny_Call_Name_kw -> ycK, builtinLookup_eq_fast -> ycO, wpAny_setField_rec -> ycP, wpAny_dictEpoch -> yc4, wpAny_typeNameOf_keyiter -> yc5, call_meetsIn -> yc7, behindInMarks -> yc9, mem_of_lookup -> ydb, wpAny_getItem_str_slice -> ydc, wpAny_forIn_list -> ydk, wpAny_isInstance -> ydl, wpAny_typeOf -> ydt, wpAny_ite_split -> ydz, wpAny_notOrdered_dict -> ydA, wpAny_pyIter_list -> ydF, wpAny_setState_of -> ydI, wpAny_attempt -> ydK, backTo -> ydM, binaryOp -> yd0, sizeLine_eq -> yd3, keywordEach -> yd4, pyNext -> yd9, codeAny_mono -> yea, wpAny_rule -> yed, wpAny_passesOwn -> yef, codeAny -> yeg, valueAt -> yel, plainId_quiet -> yeo, typeLookup_type -> yep, rawInt -> yet, assignEach -> yex, foldedSetIterable -> yey, sliceBounds -> yeD, wpAny_Call_method -> yeF, carriedByValue -> yeL, isSubtype_type -> yeM, setSearchFrom -> ye2, typeLookup -> ye5, letOwnedTupleGo -> ye7, post_val_or_str -> yfa, wpAny_updateSeq -> yfe, wpAny_pyIter_tuple -> yfo, slot_dict_contains -> yfu, updateSeq -> yfG
open PySem.Heap renaming get?_push_of_some -> yad, get?_push_size -> yan, lt_size -> yar, size_push -> ybr, get?_update_self -> ybR, get?_update_other -> yb8
open Nat renaming le_refl -> yaj, ne_of_lt -> yay, lt_of_lt_of_le -> yaP, zero_le -> yaW, le_trans -> yaY, ne_of_gt -> yby, lt_succ_of_lt -> ybS, lt_or_ge -> yb6, lt_succ_self -> ycq, le_add_right -> ycG, lt_of_le_of_lt -> ycN, le_of_lt -> yc6, lt_irrefl -> yc8, le_succ -> yda, lt_of_succ_lt_succ -> ydp, succ -> yds, not_lt_zero -> ydy, add_le_add -> ydZ, succ_le_succ -> yeX, le_of_eq -> yfp, add_comm -> yfr, le_succ_of_le -> yfI
open PySem.Value renaming ref -> yaq, none -> ycm, type -> ycn, isStrOf -> ycH, int -> ycI, str -> ydj, bool -> ydm
open Option.some renaming inj -> yaz, injEq -> ybD
open Bool renaming false_ne_true -> yaB, false_eq_true -> yaR, and_eq_true -> ya9, eq_iff_iff -> ycg, false_and -> ycR, not_true -> ye1
open PySem.Paired renaming length -> yaC
open Option renaming some -> yaH, map_some -> yej, isSome_map -> yfD
open Or renaming inl -> yaL
open PySem.PassesOwn renaming never -> yaQ
open PySem.Builtin.SmallTypes renaming ownedTupleIsFree -> ya2, nextOf -> ybN, ownedTupleHandOut -> ydW
open PySem.F renaming plainAttrs_list -> ya3, slot_list_append -> ybW, type_list_append -> ybX, slot_dict_keyiterator_next -> ybY, plainAttrs_dict -> yb2, slot_dict_get -> ycj, slot_zip_next -> ycA, slot_list_clear -> ydh, type_list_clear -> ydi, entry_dict_get -> ydo, slot_tuple_getattribute -> ydU, plain_extend_loop -> yd7, args_tuple_add_2 -> yeb, entry_tuple_add -> yei, slot_tuple_add -> yeu, args_zip_next_1 -> yeH, slot_dict_pop -> yeO, entry_zip_next -> yeW, slot_dict_setdefault -> ye3, slot_dict_ne -> yfx
open PySem.W renaming findIn -> ya5, mg_none_of -> ya7, nsIn -> ybd, kitOne -> ybg, kia_one -> ybL, kia_tup -> ybM, emptyDict -> ybP, keepIn -> ycd, fnOf -> ycw, instObj -> ycz, mg_of -> yde, codeIn -> ydR, kitx_list -> yeA, kitx_dict -> yeB, isFn -> yeN, plainGet -> yeT, plainGet_of -> ye8, makesIn -> ye9, callWith_K -> yfq, lookIn -> yfv, methodObj -> yfz, hasDictIn -> yfA
open PySem.NameKind renaming free -> ya6
open PyProof.Rows renaming callWith_type1 -> ybp, wpS_bind -> ybv, wpS_pure -> ycf, slot_tuple_getitem -> ycZ, seqObj -> yev, wpS_forRange -> yeQ, pairsOf_size -> yeR
open Sum renaming inr -> ybs, inl -> ycy
open Ne renaming symm -> ybt
open Array renaming length_toList -> ybu, getElem?_eq_getElem -> ybx, getElem?_toList -> ybT, mem_toList_iff -> ydN, forIn_toList -> yen, perm_iff_toList_perm -> yfk
open True renaming intro -> ybA
open PySem.Around renaming under_plainId -> ybF
open PySem.Calls renaming spliced_cons -> ybG, callWith_builtin -> ybK, evalArgs_plain -> ycW, spliced_nil -> ycY, call_function_entry -> ydX
open PySem.Builtin.List renaming listLengthHint -> yb3, listExtendWith -> ycB, listItems -> ycC
open Nat.succ renaming inj -> yb5
open PySem.Obj renaming mapSeq -> ycc
open PyProof.Rows.KeyOrd renaming kle_of_klt -> ycl, kle_trans -> ycr
open False renaming elim -> ycF
open PySem.Str renaming ofString -> ycM
open PySem.Builtin.Slice renaming slicePlaces -> ycT, sliceAdjust -> ydS
open PySem.Builtin.Dict renaming dictSlotArgs -> ycU, samePairs -> ydq, showsAll -> ydB
open PySem.Builtin.Tuple renaming tupleExact -> yc0
open ForInStep renaming yield -> yc1
open PySem.SeqAt.EqAt renaming same -> ydu, int_str -> yfm, str_int -> yfn
open PySem.Txt renaming slice -> ydw, slice_le -> yec
open PySem.SetTable renaming insertAt -> ydJ, probe -> yeK, has -> yeP, runEnd -> yfb
open List.cons renaming inj -> yeq
open Int renaming toNat_natCast -> yeC, toNat_of_nonneg -> yfi
open PySem.SetTable.probe renaming go -> yeG
open PySem.Draws renaming list -> yeI
open List.Sublist renaming refl -> yeJ
open PySem.Heap.SameBut renaming update -> yfc
open PySem.BindsTo renaming of_defaults -> yff
open PySem.SeqAt.RcNeAt renaming lists -> yfs
set_option Elab.async false
set_option linter.all false
set_option maxRecDepth 100000
set_option bootstrap.genMatcherCode false
noncomputable section
namespace L2
open PySem PySem.Spec PyProof.Rows
abbrev Key:=Sum Int Str
def keyIs:Key->yae->Bool
 | .inl k,v=>Value.isInt k v
 | .inr x,v=>ycH x v
def keyH (w:yaS):Key->Int
 | .inl k=>hashInt k
 | .inr x=>hashStr w x
theorem zaB:∀ {k:Key} {v:yae},keyIs k v=true->(∃ i t,k=ycy i/\v=ycI i t)\/(∃ x t,k=ybs x/\v=ydj x t)
 | .inl i,v,h=>by
  obtain ⟨t,e⟩:=Value.isInt_shape (k:=i) (v:=v) h;exact .inl ⟨i,t,rfl,e⟩
 | .inr x,v,h=>by
  obtain ⟨t,e⟩:=Value.isStrOf_shape (x:=x) (v:=v) h;exact .inr ⟨x,t,rfl,e⟩
theorem keyIs_int (i:Int) (t:Tok):keyIs (.inl i) (.int i t)=true:=by simp [keyIs,Value.isInt]
theorem keyIs_str (x:Str) (t:Tok):keyIs (.inr x) (.str x t)=true:=by simp [keyIs,ycH]
theorem key_ll (a b:Int):decide ((ycy a:Key)=ycy b)=(a == b):=by
 by_cases e:a=b
 ·subst e;simp
 ·have h:¬ (ycy a:Key)=ycy b:=λq=>e (Sum.inl.inj q);rw [decide_eq_false h];exact (beq_eq_false_iff_ne.mpr e).symm
theorem key_rr (a b:Str):decide ((ybs a:Key)=ybs b)=decide (a=b):=by
 by_cases e:a=b
 ·subst e;simp
 ·have h:¬ (ybs a:Key)=ybs b:=λq=>e (Sum.inr.inj q);rw [decide_eq_false h,decide_eq_false e]
theorem key_lr (a:Int) (b:Str):decide ((ycy a:Key)=ybs b)=false:=decide_eq_false (λq=>nomatch q)
theorem key_rl (a:Str) (b:Int):decide ((ybs a:Key)=ycy b)=false:=decide_eq_false (λq=>nomatch q)
def zan (prog:yas) (w:yaS):PySem.KeyKind prog w Key where
 is:=keyIs
 hash:=keyH w
 inj:=λv a b ha hb=>by
  rcases zaB ha with ⟨i,t,rfl,rfl⟩ | ⟨x,t,rfl,rfl⟩
  ·rcases zaB hb with ⟨j,u,rfl,e⟩ | ⟨y,u,rfl,e⟩
   ·injection e with e1 _;rw [e1]
   ·exact nomatch e
  ·rcases zaB hb with ⟨j,u,rfl,e⟩ | ⟨y,u,rfl,e⟩
   ·exact nomatch e
   ·injection e with e1 _;rw [e1]
 byValue:=λk v h=>by
  rcases zaB h with ⟨i,t,rfl,rfl⟩ | ⟨x,t,rfl,rfl⟩ <;> rfl
 pyHash:=λhv h=>by
  rcases zaB hv with ⟨i,t,rfl,rfl⟩ | ⟨x,t,rfl,rfl⟩
  ·exact wpAny_pyHash_int h
  ·exact wpAny_pyHash_str h
 eqBool:=λhu hv h=>by
  rcases zaB hu with ⟨i,t,rfl,rfl⟩ | ⟨x,t,rfl,rfl⟩
  ·rcases zaB hv with ⟨j,u,rfl,rfl⟩ | ⟨y,u,rfl,rfl⟩
   ·rw [key_ll] at h;exact wpAny_eqBool_int h
   ·rw [key_lr] at h;exact yfm i t y u _ _ _ _ h
  ·rcases zaB hv with ⟨j,u,rfl,rfl⟩ | ⟨y,u,rfl,rfl⟩
   ·rw [key_rl] at h;exact yfn x t j u _ _ _ _ h
   ·rw [key_rr] at h;exact wpAny_eqBool_str h
 «strs»:=λk x t v h=>by
  rcases zaB h with ⟨i,u,rfl,e⟩ | ⟨y,u,rfl,e⟩
  ·exact nomatch e
  ·injection e with e1 _;subst e1;cases v <;> rfl
theorem zg3 (prog:yas) (w:yaS) (i:Int) (t:Tok):(zan prog w).is (.inl i) (.int i t)=true:=keyIs_int i t
theorem zeu (prog:yas) (w:yaS) (x:Str) (t:Tok):(zan prog w).is (.inr x) (.str x t)=true:=keyIs_str x t
inductive V where
 | non | bl (b:Bool) | int (i:Int) | str (x:Str) | byt (b:Array UInt8) | flt (b:UInt64) | ref (a:Addr) | ty (n:String)
 deriving DecidableEq
def RelV:V->yae->Prop
 | .non,u=>u=ycm
 | .bl b,u=>u=ydm b
 | .int i,u=>∃ t,u=ycI i t
 | .str x,u=>∃ t,u=ydj x t
 | .byt b,u=>∃ t,u=Value.bytes b t
 | .flt b,u=>∃ t,u=Value.float b t
 | .ref a,u=>u=yaq a
 | .ty n,u=>u=ycn n
abbrev Vals:List V->List yae->Prop:=Paired RelV
theorem Vals.length {xs:List V} {us:List yae} (r:Vals xs us):xs.length=us.length:=yaC r
theorem Vals.get:∀ {xs:List V} {us:List yae} {i:Nat} {x:V},Vals xs us->xs[i]? = some x->∃ u,us[i]? = some u/\RelV x u
 | _,_,_,_,.nil,e=>by simp at e
 | _,_,0,_,.cons r _,e=>by simp at e;subst e;exact ⟨_,rfl,r⟩
 | _,_,i+1,x,.cons _ t,e=>by
  obtain ⟨u,h1,h2⟩:=Vals.get (i:=i) (x:=x) t (by simpa using e);exact ⟨u,by simpa using h1,h2⟩
theorem Vals.set {x:V} {u:yae} (r:RelV x u):∀ {xs:List V} {us:List yae} (i:Nat),Vals xs us->Vals (xs.set i x) (us.set i u)
 | _,_,_,.nil => .nil
 | _,_,0,.cons _ t => .cons r t
 | _,_,i+1,.cons q t => .cons q (Vals.set r i t)
theorem Vals.append:∀ {xs ys:List V} {us ws:List yae},Vals xs us->Vals ys ws->Vals (xs++ys) (us++ws)
 | _,_,_,_,.nil,s=>s
 | _,_,_,_,.cons r t,s => .cons r (Vals.append t s)
theorem Vals.take:∀ {xs:List V} {us:List yae} (n:Nat),Vals xs us->Vals (xs.take n) (us.take n)
 | _,_,0,_ => .nil
 | _,_,_+1,.nil => .nil
 | _,_,n+1,.cons r t => .cons r (Vals.take n t)
theorem Vals.drop:∀ {xs:List V} {us:List yae} (n:Nat),Vals xs us->Vals (xs.drop n) (us.drop n)
 | _,_,0,r=>r
 | _,_,_+1,.nil => .nil
 | _,_,n+1,.cons _ t=>Vals.drop n t
def RelO:Option V->Option yae->Prop
 | some v,some u=>RelV v u
 | none,none=>True
 | _,_=>False
def KV {κ:Type}:List (κ×V)->List (κ×yae)->Prop:=Paired λ(p:κ×V) (q:κ×yae)=>p.1=q.1/\RelV p.2 q.2
def kV:Key->V
 | .inl i => .int i
 | .inr x => .str x
inductive HO where
 | lst (xs:List V)
 | tup (xs:List V)
 | dK (kvs:List (Key×V)) | dT (kvs:List (List Key×V))
 | set (S:Int->Bool) (n:Nat)
 | ins (C dx:Addr) (fs:List (Str×V))
 | own (x:Addr)
 | xd (fs:List (Str×V))
 | met (f x:Addr)
 | rng (lo hi:Int)
 | frz (o:Obj) (u:HO)
 | tbl (ps:Array yae)
 | ext (φ:Heap->Prop)
abbrev Hp:=Addr->Option HO
def upd (H:Hp) (a:Addr) (o:HO):Hp:=λb=>if b=a then some o else H b
theorem zab {H:Hp} {a:Addr} {o:HO}:upd H a o a=some o:=by unfold upd;rw [if_pos rfl]
theorem zaf {H:Hp} {a b:Addr} {o:HO} (h:b≠a):upd H a o b=H b:=by unfold upd;rw [if_neg h]
theorem upd_upd {H:Hp} {a:Addr} {o u:HO}:upd (upd H a o) a u=upd H a u:=by
 funext b;unfold upd;split <;> rfl
theorem ne_of {H:Hp} {a b:Addr} {o u:HO} (h:H a=some o) (h':H b=some u) (d:o≠u):a≠b:=by
 intro e;subst e;rw [h] at h';exact d (yaz h')
theorem zar {H:Hp} {a b:Addr} {o:HO} (h:H a=some o) (h':H b=none):a≠b:=by
 intro e;subst e;rw [h] at h';cases h'
section
variable (P:yas) (w:yaS)
def ObjOk (H:Hp) (h:Heap) (a:Addr):HO->Prop
 | .lst xs=>xs.length<=yaO/\∃ (its:List yae) (n:Nat),Vals xs its/\h.get? a=some { cls := .type "list",data := .seq its.toArray n }
 | .tup xs=>xs.length<=yaO/\∃ its:List yae,Vals xs its/\IsTup h a its.toArray
 | .dK kvs=>kvs.length<=yaO/\(a == ybz)=false/\∃ vs,KV kvs vs/\h.DictOf (zan P w) a vs
 | .dT kvs=>kvs.length<=yaO/\(a == ybz)=false/\∃ xs:List (List Key×Addr×yae),
   Paired (λ(p:List Key×V) (q:List Key×Addr×yae)=>p.1=q.1/\H q.2.1=some (.tup (p.1.map kV))/\RelV p.2 q.2.2) kvs xs /\
   ∃ o es ep,h.get? a=some o/\o.ExactDict/\o.data = .dict es ep/\es.toList=xs.map (entryOfKey (ycJ (zan P w)))/\(xs.map (·.1)).Nodup
 | .set S n=>h.SetOf (intKind P w) a S n
 | .ins C dx fs=>H dx=some (.own a)/\fs.length<=1000/\dx≠a/\h.get? a=some (ycz C dx) /\
   ∃ mA,h.Ns1 dx mA/\(∀ f,RelO (fs.lookup f) (mA f))/\PySem.Within mA (fs.map (·.1))
 | .own _=>∃ o,h.get? a=some o
 | .xd fs=>∃ mA,h.Ns1 a mA/\∀ f,RelO (fs.lookup f) (mA f)
 | .rng lo hi=>∃ t u v,h.get? a=some { cls := .type "range",data := .fields #[.int lo t,.int hi u,.int 1 v] }
 | .frz o u=>h.get? a=some o/\ObjOk H h a u
 | .tbl ps=>h.get? a=some { cls := .none,data := .fields ps }
 | .met f x=>h.get? a=some (yfz (.ref f) (.ref x))
 | .ext φ=>φ h/\(∃ o,h.get? a=some o)/\∀ h1 h2:Heap,φ h1->(∀ o,h1.get? a=some o->h2.get? a=some o)->φ h2
def HOk (H:Hp) (h:Heap):Prop:=∀ a o,H a=some o->ObjOk P w H h a o
end
section
variable {P:yas} {w:yaS} {H H':Hp} {h h':Heap} {a:Addr} {o:HO}
theorem ObjOk.lt (x:ObjOk P w H h a o):a < h.objs.size:=by
 cases o with
 | lst xs=>obtain ⟨_,_,_,_,e⟩:=x;exact yar e
 | tup xs=>obtain ⟨_,_,_,p⟩:=x;exact p.lt
 | dK kvs=>obtain ⟨_,_,_,_,o,_,_,e,_⟩:=x;exact yar e
 | dT kvs=>obtain ⟨_,_,_,_,o,_,_,e,_⟩:=x;exact yar e
 | set S n=>obtain ⟨o,_,_,_,e,_⟩:=x;exact yar e
 | ins C dx fs=>obtain ⟨_,_,_,e,_⟩:=x;exact yar e
 | own y=>obtain ⟨_,e⟩:=x;exact yar e
 | xd fs=>obtain ⟨_,⟨_,_,_,e,_⟩,_⟩:=x;exact yar e
 | rng lo hi=>obtain ⟨_,_,_,e⟩:=x;exact yar e
 | frz ob u=>obtain ⟨e,_⟩:=x;exact yar e
 | tbl ps=>exact yar (show h.get? a=some _ from x)
 | met f y=>exact yar (show h.get? a=some _ from x)
 | ext b=>obtain ⟨_,⟨_,e⟩,_⟩:=x;exact yar e
theorem Paired.mapP {α d:Type} {F G:α->d->Prop}:∀ {c:List α} {l₂:List d},Paired F c l₂->(∀ a b,F a b->G a b)->Paired G c l₂:=by
 intro l m h f
 induction h with
 | nil=>exact .nil
 | cons r t e=>exact .cons (f _ _ r) e
theorem ObjOk.stay (x:ObjOk P w H h a o) (k:∀ b u,(b=a\/H b=some (.own a))->h.get? b=some u->h'.get? b=some u)
  (l:∀ b,H b=some (.own a)->H' b=some (.own a)) (m:∀ b xs,H b=some (.tup xs)->H' b=some (.tup xs)):ObjOk P w H' h' a o:=by
 induction o with
 | lst xs=>obtain ⟨z,g,n,r,e⟩:=x;exact ⟨z,g,n,r,k _ _ (.inl rfl) e⟩
 | tup xs=>obtain ⟨z,g,r,ob,e,c⟩:=x;exact ⟨z,g,r,ob,k _ _ (.inl rfl) e,c⟩
 | dK kvs=>obtain ⟨z,y,vs,r,ob,es,ep,e,c⟩:=x;exact ⟨z,y,vs,r,ob,es,ep,k _ _ (.inl rfl) e,c⟩
 | dT kvs =>
  obtain ⟨z,y,xs,r,ob,es,ep,e,c⟩:=x;exact ⟨z,y,xs,Paired.mapP r λp q z=>⟨z.1,m _ _ z.2.1,z.2.2⟩,ob,es,ep,k _ _ (.inl rfl) e,c⟩
 | set S n=>obtain ⟨ob,es,ep,t,e,c⟩:=x;exact ⟨ob,es,ep,t,k _ _ (.inl rfl) e,c⟩
 | ins C dx fs =>
  obtain ⟨d,z,j,e,i,⟨od,es,ep,e2,c⟩,r⟩:=x;exact ⟨l _ d,z,j,k _ _ (.inl rfl) e,i,⟨od,es,ep,k _ _ (.inr d) e2,c⟩,r⟩
 | own y=>obtain ⟨ob,e⟩:=x;exact ⟨ob,k _ _ (.inl rfl) e⟩
 | xd fs=>obtain ⟨i,⟨od,es,ep,e,c⟩,r⟩:=x;exact ⟨i,⟨od,es,ep,k _ _ (.inl rfl) e,c⟩,r⟩
 | rng lo hi=>obtain ⟨t,u,v,e⟩:=x;exact ⟨t,u,v,k _ _ (.inl rfl) e⟩
 | frz ob u s=>obtain ⟨e,q⟩:=x;exact ⟨k _ _ (.inl rfl) e,s q⟩
 | tbl ps =>
  have e:h.get? a=some { cls := .none,data := .fields ps }:=x;show h'.get? a=some { cls := .none,data := .fields ps };exact k a _ (.inl rfl) e
 | met f y =>
  have e:h.get? a=some (yfz (.ref f) (.ref y)):=x;show h'.get? a=some (yfz (.ref f) (.ref y));exact k a _ (.inl rfl) e
 | ext A=>obtain ⟨p,⟨o,e⟩,st⟩:=x;exact ⟨st _ _ p λo q=>k _ _ (.inl rfl) q,⟨o,k _ _ (.inl rfl) e⟩,st⟩
theorem HOk.lt (x:HOk P w H h) (e:H a=some o):a < h.objs.size:=(x a o e).lt
theorem HOk.fresh (x:HOk P w H h) (e:h.objs.size<=a):H a=none:=by
 cases q:H a with
 | none=>rfl
 | some u=>exact absurd (yaP (x.lt q) e) (yc8 _)
theorem HOk.kept (x:HOk P w H h) (k:∀ b u,h.get? b=some u->h'.get? b=some u):HOk P w H h':=λa o e =>
 (x a o e).stay (λb u _ q=>k b u q) (λ_ q=>q) λ_ _ q=>q
theorem HOk.laid (x:HOk P w H h) (k:∀ b u,h.get? b=some u->h'.get? b=some u) (g:h.objs.size<=a) (new:ObjOk P w (upd H a o) h' a o):HOk P w (upd H a o) h':=λb u e=>by
 have d:=x.fresh g;by_cases f:b=a
 ·subst f;rw [zab] at e;cases e;exact new
 ·rw [zaf f] at e;exact (x b u e).stay (λc v _ q=>k c v q) (λc q=>by rw [zaf (zar q d)];exact q) λc xs q=>by rw [zaf (zar q d)];exact q
end
def Rd (H:Hp) (a:Addr) (u:HO):Prop:=H a=some u\/∃ o,H a=some (.frz o u)
theorem Rd.ok {P:yas} {w:yaS} {H:Hp} {h:Heap} {a:Addr} {u:HO} (r:Rd H a u) (x:HOk P w H h):ObjOk P w H h a u:=by
 rcases r with r | ⟨o,r⟩
 ·exact x a u r
 ·obtain ⟨_,q⟩:=x a _ r;exact q
def Mut:Option HO->Prop
 | some (.lst _)=>True
 | some (.dK _)=>True
 | some (.dT _)=>True
 | some (.set _ _)=>True
 | some (.ins _ _ _)=>True
 | some (.ext _)=>True
 | _=>False
section
variable {P:yas} {w:yaS} {H:Hp} {h h':Heap} {x e:Addr} {o':HO}
theorem HOk.write (ok:HOk P w H h) (g:Mut (H x)) (m:e=x\/H e=some (.own x)) (k:∀ b u,b≠e->h.get? b=some u->h'.get? b=some u) (j:∃ u,h'.get? e=some u)
  (new:ObjOk P w (upd H x o') h' x o'):HOk P w (upd H x o') h':=λb u q=>by
 have d:∀ c y,H c=some (.own y)->c≠x:=λc y r z=>by subst z;rw [r] at g;exact g
 have f:∀ c xs,H c=some (.tup xs)->c≠x:=λc xs r z=>by subst z;rw [r] at g;exact g
 by_cases i:b=x
 ·subst i;rw [zab] at q;cases q;exact new
 ·rw [zaf i] at q;by_cases a:b=e
  ·have l:H b=some (.own x):=by
    rcases m with z | z
    ·exact absurd (a.trans z) i
    ·rw [a];exact z
   rw [q] at l;cases l;obtain ⟨v,n⟩:=j;exact ⟨v,by rw [a];exact n⟩
  ·refine (ok b u q).stay (λc v hc r=>k c v ?_ r) (λc r=>by rw [zaf (d c b r)];exact r) λc xs r=>by rw [zaf (f c xs r)];exact r
   rcases hc with rfl | hc
   ·exact a
   ·rintro rfl;rcases m with z | z
    ·exact d c b hc z
    ·rw [hc] at z;cases z;exact i rfl
end
structure Un (fs ex:List Addr) (H H':Hp) (h h':Heap):Prop where
 keep:∀ b o,h.get? b=some o->H b=none->b∉fs->b∉ex->h'.get? b=some o
 slot:∀ b o,h.get? b=some o->H b=none->b∈fs->b∉ex->∃ sl,h'.get? b=some { o with slots:=sl }
 free:∀ b o,h.get? b=some o->H b=none->b∉ex->H' b=none
 there:∀ b o,h.get? b=some o->b∉ex->∃ o',h'.get? b=some o'
 tups:∀ b xs,H b=some (.tup xs)->H' b=some (.tup xs)
 frzs:∀ b o u,H b=some (.frz o u)->H' b=some (.frz o u)
 tbls:∀ b ps,H b=some (.tbl ps)->∃ more,H' b=some (.tbl (ps++more))
section
variable {fs fs' ex ex':List Addr} {H H1 H2:Hp} {h h1 h2 h':Heap} {a x e:Addr} {o:HO}
theorem Un.any (u:Un fs ex H H1 h h1) {b:Addr} {ob:Obj} (q:h.get? b=some ob) (n:H b=none) (a:b∉ex):∃ d,h1.get? b=some { ob with slots:=d }:=by
 by_cases c:b∈fs
 ·exact u.slot b ob q n c a
 ·exact ⟨ob.slots,u.keep b ob q n c a⟩
theorem Un.kept (k:∀ b u,h.get? b=some u->h'.get? b=some u):Un fs ex H H h h' :=
 ⟨λb ob q _ _ _=>k b ob q,λb ob q _ _ _=>⟨ob.slots,k b ob q⟩,λ_ _ _ n _=>n,λb ob q _=>⟨ob,k b ob q⟩,λ_ _ q=>q,λ_ _ _ q=>q,λ_ ps q=>⟨#[],by rw [q];simp⟩⟩
theorem Un.refl:Un fs ex H H h h:=Un.kept λ_ _ q=>q
theorem Un.laid (k:∀ b u,h.get? b=some u->h'.get? b=some u) (d:h.objs.size<=a) (c:H a=none):Un fs ex H (upd H a o) h h' where
 keep:=λb u q _ _ _=>k b u q
 slot:=λb u q _ _ _=>⟨u.slots,k b u q⟩
 free:=λb u q n _=>by rw [zaf (yay (yaP (yar q) d))];exact n
 there:=λb u q _=>⟨u,k b u q⟩
 tups:=λb xs q=>by rw [zaf (zar q c)];exact q
 frzs:=λb u xs q=>by rw [zaf (zar q c)];exact q
 tbls:=λb ps q=>⟨#[],by rw [zaf (zar q c),q];simp⟩
theorem Un.write (c:Mut (H x)) (j:e=x\/H e=some (.own x)) (k:∀ b u,b≠e->h.get? b=some u->h'.get? b=some u) (d:∃ u,h'.get? e=some u):Un fs ex H (upd H x o) h h':=by
 have g:∀ b,H b=none->b≠x:=λb n z=>by subst z;rw [n] at c;exact c
 have i:∀ b,H b=none->b≠e:=λb n z=>by
  subst z;rcases j with r | r
  ·exact g b n r
  ·rw [n] at r;cases r
 have f:∀ b u,H b=some u->¬ Mut (some u)->b≠x:=λb u q nm z=>by subst z;rw [q] at c;exact nm c
 refine ⟨λb u q n _ _=>k b u (i b n) q,λb u q n _ _=>⟨u.slots,k b u (i b n) q⟩,λb u q n _=>by rw [zaf (g b n)];exact n,λb u q _ => ?_,
  λb xs q=>by rw [zaf (f b _ q λz=>z)];exact q,λb u xs q=>by rw [zaf (f b _ q λz=>z)];exact q,λb ps q=>⟨#[],by rw [zaf (f b _ q λz=>z),q];simp⟩⟩
 by_cases a:b=e
 ·subst a;exact d
 ·exact ⟨u,k b u a q⟩
end
def trk (h:Heap) (H:Hp):List Addr:=(ycE h.objs.size).filter λa=>(H a).isSome
def hidT (h:Heap) (H:Hp):Heap:=PySem.W.hideAll h (trk h H)
theorem hidT_size (h:Heap) (H:Hp):(hidT h H).objs.size=h.objs.size:=PySem.W.hideAll_size _ _
theorem hidT_get {h:Heap} {H:Hp} {b:Addr} {o:Obj} (e:h.get? b=some o) (n:H b=none):(hidT h H).get? b=some o :=
 PySem.W.hideAll_get _ e λa=>by
  have q:(H b).isSome=true:=(ye6.mp a).2;rw [n] at q;simp at q
theorem of_hidT {h:Heap} {H:Hp} {b:Addr} {o:Obj} (e:(hidT h H).get? b=some o):h.get? b=some o/\H b=none:=by
 have a:h.get? b=some o:=PySem.W.of_hideAll (trk h H) e;refine ⟨a,?_⟩;cases q:H b with
 | none=>rfl
 | some x =>
  have c:b∈trk h H:=ye6.mpr ⟨ydn.mpr (yar a),by simp [q]⟩;have z:(hidT h H).get? b=none:=PySem.W.hideAll_none (trk h H) c;rw [z] at e;cases e
structure Mod (K:PySem.W.Frag) (mg:Str->Option yae) (base:Heap):Prop where
 kin:K.In base
 glob:base.Ns yaV mg
 blt:∃ mb,base.Ns builtinsNs mb/\∀ x:Str,x ≠ "__name__"->mb x=ybf x
 nolimit:base.NoLimit
structure Cx where
 prog:yas
 w:yaS
 K:PySem.W.Frag
 mg:Str->Option yae
 base:Heap
 A:yaM
 N:List Str
 s₀:yag
 H₀:Hp
 env:Env
 outer:List Env
 stack:List Env
 ex:List Addr
 fn:Str->Bool
 calm:Bool
 pn:List (Addr×Obj)
 xe:yae->yag->Prop
def frs (l:List Env):List Addr:=l.filterMap (·.frame)
abbrev Cx.fs (X:Cx):List Addr:=frs X.outer
def Vis (sc:Scope) (x:Str):Prop:=sc.names.lookup x=some .local\/sc.names.lookup x=some .cell\/sc.names.lookup x=some .free
def Loc (sc:Scope) (x:Str):Prop:=sc.names.lookup x=some .local\/sc.names.lookup x=some .cell
def Look (env:Env) (h:Heap) (m:Str->Option yae) (x:Str) (u:yae):Prop :=
 (env.kindOf x=some .local/\m x=some u)\/((env.kindOf x=some .cell\/env.kindOf x=some .free)/\∃ c,env.cells.lookup x=some c/\h.IsCell c (some u))
structure Cx.Ok (X:Cx):Prop where
 mod:Mod X.K X.mg X.base
 kind:X.env.scope.kind = .function
 glob:X.env.globals=yaV
 blt:X.env.builtins=builtinsNs
 above:X.s₀.heap.objs.size<=X.env.locals
 inj:∀ x y c,X.env.cells.lookup x=some c->X.env.cells.lookup y=some c->x=y
 has:∀ x,(X.env.kindOf x=some .cell\/X.env.kindOf x=some .free)->∃ c,X.env.cells.lookup x=some c
 cab:∀ x c,X.fn x=true->X.env.cells.lookup x=some c->X.s₀.heap.objs.size<=c
 hd:X.calm=true->X.A.handled=none
 frames:X.A.frames=some X.stack
 stk:X.stack=X.outer\/(X.stack=X.env :: X.outer/\X.env.frame=some X.env.locals)
 exf:∀ b∈X.ex,b≠X.env.locals/\∀ x c,X.env.cells.lookup x=some c->c≠b
 bs:∀ b o,X.base.get? b=some o->X.s₀.heap.get? b=some o/\X.H₀ b=none
 bsz:X.base.objs.size<=X.s₀.heap.objs.size
 noex:∀ b o,X.base.get? b=some o->b∉X.ex
 exfs:∀ b∈X.ex,b∉X.fs
 funs:X.s₀.heap.FunFrames X.base X.outer
 frf:∀ b∈X.fs,X.H₀ b=none
structure Inv (X:Cx) (pins:List (Addr×Obj)) (σ:List (Option V)) (H:Hp) (s:yag):Prop where
 ok:X.Ok
 os:s.os=X.s₀.os
 bare:AllBare s.gens
 base:Un X.fs X.ex X.H₀ H X.s₀.heap s.heap
 loc:∃ m,s.heap.Ns X.env.locals m/\∀ (i:Nat) (x:Str) (v:V),X.N[i]? = some x->σ[i]? = some (some v)->Vis X.env.scope x->∃ u,RelV v u/\Look X.env s.heap m x u
 cell:∀ x c,X.env.cells.lookup x=some c->∃ v,s.heap.IsCell c v
 free:H X.env.locals=none
 freeC:∀ x c,X.env.cells.lookup x=some c->H c=none
 pin:∀ p∈X.pn++pins,s.heap.get? p.1=some p.2/\H p.1=none/\p.1≠X.env.locals/\p.1∉X.fs/\∀ v,p.2.data ≠ .cell v
 hok:HOk X.prog X.w H s.heap
 len:σ.length=X.N.length
section
variable {X:Cx} {pins:List (Addr×Obj)} {σ:List (Option V)} {H H':Hp} {s:yag} {h':Heap}
theorem Cx.Ok.nofr (ok:X.Ok) {b:Addr} {o:Obj} (e:X.base.get? b=some o):b∉X.fs:=λa=>by
 have:=(ok.funs.mem a).1;rw [e] at this;cases this
theorem Inv.bs (I:Inv X pins σ H s):∀ b o,X.base.get? b=some o->s.heap.get? b=some o/\H b=none:=λb o e =>
 ⟨I.base.keep b o (I.ok.bs b o e).1 (I.ok.bs b o e).2 (I.ok.nofr e) (I.ok.noex b o e),I.base.free b o (I.ok.bs b o e).1 (I.ok.bs b o e).2 (I.ok.noex b o e)⟩
theorem Inv.bk (I:Inv X pins σ H s):∀ b o,X.base.get? b=some o->s.heap.get? b=some o:=λb o e=>(I.bs b o e).1
theorem Inv.mod (I:Inv X pins σ H s):Mod X.K X.mg X.base:=I.ok.mod
theorem Inv.kIn (I:Inv X pins σ H s):X.K.In s.heap:=I.ok.mod.kin.keeps I.bk
theorem Inv.lt (I:Inv X pins σ H s):X.env.locals < s.heap.objs.size:=by
 obtain ⟨_,a,_⟩:=I.loc;exact a.lt
theorem Inv.sz (I:Inv X pins σ H s):X.s₀.heap.objs.size<=s.heap.objs.size:=yaY I.ok.above (yc6 I.lt)
theorem Inv.nofs (I:Inv X pins σ H s) {a:Addr} (h:s.heap.objs.size<=a):a∉X.fs:=λc=>by
 obtain ⟨_,o,b,_⟩:=I.ok.funs.mem c;exact absurd (yaP (yar b) (yaY I.sz h)) (yc8 _)
theorem Inv.cne (I:Inv X pins σ H s):∀ x c,X.env.cells.lookup x=some c->c≠X.env.locals:=λx c e z=>by
 obtain ⟨v,o,d,hd⟩:=I.cell x c e;obtain ⟨m,⟨f,es,ep,b,a,_⟩,_⟩:=I.loc;rw [z,b] at d;cases d;rw [a] at hd;cases hd
theorem Inv.funs (I:Inv X pins σ H s):s.heap.FunFrames X.base X.outer:=by
 have all:∀ (l:List Env),(∀ b∈frs l,b∈X.fs)->X.s₀.heap.FunFrames X.base l->s.heap.FunFrames X.base l:=by
  intro l
  induction l with
  | nil=>intro _ _;trivial
  | cons env r k =>
   intro hs h;obtain ⟨f,⟨L,o,d,i,g,hd⟩,j⟩:=h;have a:L∈X.fs:=hs L (by unfold frs;rw [yb9,d];exact yax);obtain ⟨m,e⟩:=I.base.slot L o g (I.ok.frf L a) a λz=>I.ok.exfs L z a;exact ⟨f,⟨L,_,d,i,e,hd⟩,k (λb c=>hs b (by unfold frs;rw [yb9,d];exact yal _ c)) j⟩
 exact all X.outer (λ_ c=>c) I.ok.funs
theorem Inv.stack (I:Inv X pins σ H s):s.heap.FunFrames X.base X.stack:=by
 rcases I.ok.stk with e | ⟨e,b⟩
 ·rw [e];exact I.funs
 ·rw [e];obtain ⟨m,a,_⟩:=I.loc;refine .cons (by rw [I.ok.kind];decide) b a ?_ I.funs;exact Heap.get?_none_of_le (yaY I.ok.bsz I.ok.above)
theorem Inv.stkSub (I:Inv X pins σ H s):∀ b∈frs X.stack,b∈X.env.locals :: X.fs:=λb a=>by
 rcases I.ok.stk with e | ⟨e,c⟩
 ·rw [e] at a;exact yal _ a
 ·rw [e] at a;unfold frs at a;rw [yb9,c] at a;exact a
theorem Inv.stkFree (I:Inv X pins σ H s):∀ b∈frs X.stack,H b=none:=λb a=>by
 rcases yaJ.mp (I.stkSub b a) with e | a
 ·rw [e];exact I.free
 ·obtain ⟨_,o,c,_⟩:=I.ok.funs.mem a;exact I.base.free b o c (I.ok.frf b a) λz=>I.ok.exfs b z a
theorem Inv.step {g':Array GenState} {t':Nat} {d':Drawn} {ch:List Addr} (I:Inv X pins σ H s)
  (h:∀ b∈ch,(b∈X.ex\/X.s₀.heap.objs.size<=b)/\b≠X.env.locals/\(∀ x c,X.env.cells.lookup x=some c->c≠b)/\∀ p∈X.pn++pins,p.1≠b)
  (keep:∀ b o,b≠X.env.locals->b∉X.fs->b∉ch->s.heap.get? b=some o->H b=none->h'.get? b=some o)
  (slot:∀ b o,b≠X.env.locals->b∈X.fs->b∉ch->s.heap.get? b=some o->H b=none->∃ E,h'.get? b=some { o with slots:=E }) (free:∀ b o,b∉ch->s.heap.get? b=some o->H b=none->H' b=none)
  (there:∀ b o,b∉ch->s.heap.get? b=some o->∃ C,h'.get? b=some C)
  (tups:∀ b xs,H b=some (.tup xs)->H' b=some (.tup xs)) (frzs:∀ b o u,H b=some (.frz o u)->H' b=some (.frz o u)) (tbls:∀ b ps,H b=some (.tbl ps)->∃ A,H' b=some (.tbl (ps++A)))
  (ns:∀ m,s.heap.Ns X.env.locals m->h'.Ns X.env.locals m) (F:HOk X.prog X.w H' h') (R:AllBare g') :
  Inv X pins σ H' { s with heap:=h',gens:=g',drawn:=d',toks:=t' }:=by
 have B:∀ b o,X.s₀.heap.get? b=some o->b≠X.env.locals:=λb o e=>yay (yaP (yar e) I.ok.above);have j:∀ b o,X.s₀.heap.get? b=some o->b∉X.ex->b∉ch:=λb o e a t=>by
  rcases (h b t).1 with z | z
  ·exact a z
  ·exact absurd (yaP (yar e) z) (yc8 _)
 have g:∀ x c,X.env.cells.lookup x=some c->∀ v,s.heap.IsCell c v->h'.IsCell c v:=by
  rintro x c e v ⟨o,y,hd⟩;have f:c∉ch:=λz=>(h c z).2.2.1 x c e rfl;by_cases hc:c∈X.fs
  ·obtain ⟨E,q⟩:=slot c o (I.cne x c e) hc f y (I.freeC x c e);exact ⟨_,q,hd⟩
  ·exact ⟨o,keep c o (I.cne x c e) hc f y (I.freeC x c e),hd⟩
 refine ⟨I.ok,I.os,R,⟨λb o e n t a => ?_,λb o e n t a => ?_,λb o e n a => ?_,λb o e a => ?_,λb xs e=>tups b xs (I.base.tups b xs e),λb o xs e=>frzs b o xs (I.base.frzs b o xs e),λb ps e => ?_⟩,?_,λx c e => ?_,?_,λx c e => ?_,λp L => ?_,F,I.len⟩
 ·exact keep b o (B b o e) t (j b o e a) (I.base.keep b o e n t a) (I.base.free b o e n a)
 ·obtain ⟨E,e1⟩:=I.base.slot b o e n t a;obtain ⟨D,e2⟩:=slot b _ (B b o e) t (j b o e a) e1 (I.base.free b o e n a);exact ⟨D,e2⟩
 ·obtain ⟨C,e1⟩:=I.base.there b o e a;exact free b C (j b o e a) e1 (I.base.free b o e n a)
 ·obtain ⟨C,e1⟩:=I.base.there b o e a;exact there b C (j b o e a) e1
 ·obtain ⟨Q,e1⟩:=I.base.tbls b ps e;obtain ⟨O,e2⟩:=tbls b _ e1;exact ⟨Q++O,by rw [e2,Array.append_assoc]⟩
 ·obtain ⟨m,N,M⟩:=I.loc;refine ⟨m,ns m N,λi x v e1 e2 e3 => ?_⟩;obtain ⟨u,r,l⟩:=M i x v e1 e2 e3;refine ⟨u,r,?_⟩;rcases l with l | ⟨k,c,e,z⟩
  ·exact .inl l
  ·exact .inr ⟨k,c,e,g x c e _ z⟩
 ·obtain ⟨v,z⟩:=I.cell x c e;exact ⟨v,g x c e v z⟩
 ·obtain ⟨m,⟨o,_,_,y,_⟩,_⟩:=I.loc;exact free _ o (λz=>(h _ z).2.1 rfl) y I.free
 ·obtain ⟨v,o,y,hd⟩:=I.cell x c e;exact free c o (λz=>(h c z).2.2.1 x c e rfl) y (I.freeC x c e)
 ·obtain ⟨e,n,G,J,d⟩:=I.pin p L;have f:p.1∉ch:=λz=>(h p.1 z).2.2.2 p L rfl;exact ⟨keep p.1 p.2 G J f e n,free p.1 p.2 f e n,G,J,d⟩
theorem Inv.un {t':Nat} (I:Inv X pins σ H s) (u:Un X.fs [] H H' s.heap h') (g:HOk X.prog X.w H' h'):Inv X pins σ H' { s with heap:=h',toks:=t' }:=by
 obtain ⟨m,⟨o,es,ep,h,r⟩,_⟩:=id I.loc;obtain ⟨l,j⟩:=u.any h I.free (by simp);exact I.step (g':=s.gens) (d':=s.drawn) (ch := []) (λ_ z=>nomatch z) (λb o _ d _ e n=>u.keep b o e n d (by simp)) (λb o _ d _ e n=>u.slot b o e n d (by simp)) (λb o _ e n=>u.free b o e n (by simp)) (λb o _ e=>u.there b o e (by simp)) u.tups u.frzs u.tbls (λq k=>by
  obtain ⟨p,f,c,a,i⟩:=k;rw [h] at a;cases a;exact ⟨_,f,c,j,i⟩) g I.bare
theorem Inv.call {g':Array GenState} {t':Nat} {d':Drawn} {ch:List Addr} (I:Inv X pins σ H s) (u:Un (frs X.stack) ch H H' s.heap h') (i:HOk X.prog X.w H' h') (t:AllBare g')
  (d:∀ b∈ch,(b∈X.ex\/X.s₀.heap.objs.size<=b)/\b≠X.env.locals/\(∀ x c,X.env.cells.lookup x=some c->c≠b)/\∀ p∈X.pn++pins,p.1≠b) :
  Inv X pins σ H' { s with heap:=h',gens:=g',drawn:=d',toks:=t' }:=by
 obtain ⟨m,⟨o,es,ep,j,r⟩,_⟩:=id I.loc;obtain ⟨v,f⟩:=u.any j I.free λz=>(d _ z).2.1 rfl;exact I.step (ch:=ch) d (λb o f q hc e n=>u.keep b o e n (λz=>(yaJ.mp (I.stkSub b z)).elim f q) hc) (λb o _ _ hc e n=>u.any e n hc) (λb o hc e n=>u.free b o e n hc) (λb o hc e=>u.there b o e hc) u.tups u.frzs u.tbls (λA l=>by
  obtain ⟨y,h,g,a,k⟩:=l;rw [j] at a;cases a;exact ⟨_,h,g,f,k⟩) i t
theorem Inv.turned {t':Nat} {it:Addr} (I:Inv X pins σ H s) (k:∀ b o,b≠it->s.heap.get? b=some o->h'.get? b=some o) (h:H it=none) (d:it≠X.env.locals)
  (h1:it∈X.ex\/X.s₀.heap.objs.size<=it) (h2:∀ x c,X.env.cells.lookup x=some c->c≠it) (j:∀ p∈X.pn++pins,p.1≠it):Inv X pins σ H { s with heap:=h',toks:=t' }:=by
 have a:∀ b u,H b=some u->b≠it:=λb u e z=>by rw [z,h] at e;cases e
 refine I.step (g':=s.gens) (d':=s.drawn) (ch := [it]) (λb i => ?_) (λb o _ _ hc e _=>k b o (λz=>hc (by simp [z])) e) (λb o _ _ hc e _=>⟨o.slots,k b o (λz=>hc (by simp [z])) e⟩) (λ_ _ _ _ n=>n)
  (λb o hc e=>⟨o,k b o (λz=>hc (by simp [z])) e⟩) (λ_ _ e=>e) (λ_ _ _ e=>e) (λb ps e=>⟨#[],by rw [e];simp⟩) (λm g => ?_) (λb u e => ?_) I.bare
 ·have e:b=it:=by simpa using i
  subst e;exact ⟨h1,d,h2,j⟩
 ·obtain ⟨o,es,ep,f,r⟩:=g;exact ⟨o,es,ep,k _ o (ybt d) f,r⟩
 ·refine (I.hok b u e).stay (λc v hc q=>k c v ?_ q) (λ_ q=>q) λ_ _ q=>q;rcases hc with z | z
  ·rw [z];exact a b u e
  ·exact a c _ z
theorem Inv.tok (I:Inv X pins σ H s) (t:Nat):Inv X pins σ H { s with toks:=t }:=I.un (h':=s.heap) (t':=t) Un.refl I.hok
theorem Inv.kept {t':Nat} (I:Inv X pins σ H s) (k:∀ b u,s.heap.get? b=some u->h'.get? b=some u):Inv X pins σ H { s with heap:=h',toks:=t' }:=I.un (Un.kept k) (I.hok.kept k)
theorem Inv.laid {a:Addr} {o:HO} {t':Nat} (I:Inv X pins σ H s) (k:∀ b u,s.heap.get? b=some u->h'.get? b=some u) (c:s.heap.objs.size<=a) (new:ObjOk X.prog X.w (upd H a o) h' a o) :
  Inv X pins σ (upd H a o) { s with heap:=h',toks:=t' }:=I.un (Un.laid k c (I.hok.fresh c)) (I.hok.laid k c new)
theorem Inv.write {x e:Addr} {o:HO} {t':Nat} (I:Inv X pins σ H s) (d:Mut (H x)) (c:e=x\/H e=some (.own x)) (k:∀ b u,b≠e->s.heap.get? b=some u->h'.get? b=some u) (a:∃ u,h'.get? e=some u)
  (new:ObjOk X.prog X.w (upd H x o) h' x o):Inv X pins σ (upd H x o) { s with heap:=h',toks:=t' }:=I.un (Un.write d c k a) (I.hok.write d c k a new)
theorem Inv.pins_of {a:List (Addr×Obj)} (I:Inv X pins σ H s) (h:∀ p∈a,s.heap.get? p.1=some p.2/\H p.1=none/\p.1≠X.env.locals/\p.1∉X.fs/\∀ v,p.2.data ≠ .cell v):Inv X a σ H s :=
 ⟨I.ok,I.os,I.bare,I.base,I.loc,I.cell,I.free,I.freeC,λp b=>(yau.mp b).elim (λz=>I.pin p (ybe _ z)) (h p),I.hok,I.len⟩
theorem zhD {N:List Str} (c:N.Nodup) {i j:Nat} {x:Str} (a:N[i]? = some x) (b:N[j]? = some x):i=j:=by
 obtain ⟨h1,e1⟩:=yav.mp a;obtain ⟨h2,e2⟩:=yav.mp b;exact (yb4 c).mp (e1.trans e2.symm)
theorem zgK {M:Model} {A:yaM} {E:yae->yag->Prop} {i:Nat} {x:Str} {v:V} {u:yae} {Q:Unit->yag->Prop} (I:Inv X pins σ H s) (hN:X.N.Nodup) (hi:X.N[i]? = some x) (g:Loc X.env.scope x) (r:RelV v u)
  (h:∀ s',Inv X pins (σ.set i (some v)) H s'->(∃ a,Heap.SameBut a s.heap s'.heap/\(a=X.env.locals\/X.env.cells.lookup x=some a))->Q () s') (hf:X.fn x=true\/X.env.scope.names.lookup x=some .local:=by first | exact .inl rfl | exact .inr rfl | assumption):wpAny M A (storeName X.env x u) Q E s:=by
 obtain ⟨m,hn,hl⟩:=id I.loc;have J:(X.env.scope.kind == .class || (X.env.scope.kind == .module&&X.env.locals != X.env.globals))=false:=by rw [I.ok.kind];rfl
 have B:i < σ.length:=by rw [I.len];exact (yav.mp hi).1
 have cne:=I.cne;have f:∀ {a:Addr} {h':Heap},(∃ o,s.heap.get? a=some o/\H a=none)->Heap.SameBut a s.heap h'->HOk X.prog X.w H h':=λ{a h'} ha hs b ob e=>by
  obtain ⟨_,_,l⟩:=ha;refine (I.hok b ob e).stay (λc S hc q=>(hs.2 c ?_).trans q) (λ_ q=>q) λ_ _ q=>q;rintro rfl;rcases hc with rfl | hc
  ·rw [l] at e;cases e
  ·rw [l] at hc;cases hc
 rcases g with t | t
 ·refine wpAny_storeName_local t hn (λh' aa hs => ?_) J;obtain ⟨oL,_,_,ad,_⟩:=id hn;refine h _ ⟨I.ok,I.os,I.bare,⟨λb o e n F g => ?_,λb o e n F g => ?_,I.base.free,λb o e g => ?_,I.base.tups,I.base.frzs,I.base.tbls⟩,⟨_,aa,λj y v' e1 e2 e3 => ?_⟩,λy c e => ?_,I.free,I.freeC,λp hp => ?_,f ⟨oL,ad,I.free⟩ hs,by simpa using I.len⟩ ⟨_,hs,.inl rfl⟩
  ·exact (hs.2 b (yay (yaP (yar e) I.ok.above))).trans (I.base.keep b o e n F g)
  ·obtain ⟨sl,e1⟩:=I.base.slot b o e n F g;exact ⟨sl,(hs.2 b (yay (yaP (yar e) I.ok.above))).trans e1⟩
  ·obtain ⟨o',e1⟩:=I.base.there b o e g;exact ⟨o',(hs.2 b (yay (yaP (yar e) I.ok.above))).trans e1⟩
  ·by_cases D:j=i
   ·subst D;rw [hi] at e1;cases e1;rw [List.getElem?_set_self B] at e2;cases e2;exact ⟨u,r,.inl ⟨t,by simp⟩⟩
   ·rw [List.getElem?_set_ne (ybt D)] at e2;obtain ⟨Z,Y,q⟩:=hl j y v' e1 e2 e3;refine ⟨Z,Y,?_⟩;rcases q with ⟨k,e⟩ | ⟨k,c,e,z⟩
    ·refine .inl ⟨k,?_⟩;have:y≠x:=λe=>D (zhD hN e1 (e ▸ hi));simp [this,e]
    ·exact .inr ⟨k,c,e,z.sameBut hs (cne y c e)⟩
  ·obtain ⟨S,z⟩:=I.cell y c e;exact ⟨S,z.sameBut hs (cne y c e)⟩
  ·obtain ⟨e,n,U,nf,d⟩:=I.pin p hp;exact ⟨(hs.2 p.1 U).trans e,n,U,nf,d⟩
 ·have C:X.fn x=true:=by
   rcases hf with z | z
   ·exact z
   ·rw [z] at t;cases t
  obtain ⟨c,hc⟩:=I.ok.has x (.inl t);obtain ⟨S,z⟩:=I.cell x c hc;refine wpAny_storeName_cell I.ok.kind t hc z (λh' O hs => ?_);obtain ⟨oc,L,R⟩:=id z;refine h { s with heap:=h' } ⟨I.ok,I.os,I.bare,⟨λb o e n F g => ?_,λb o e n F g => ?_,I.base.free,λb o e g => ?_,I.base.tups,I.base.frzs,I.base.tbls⟩,⟨m,hn.sameBut hs (ybt (cne x c hc)),λj y v' e1 e2 e3 => ?_⟩,λy W e => ?_,I.free,I.freeC,λp hp => ?_,f ⟨oc,L,I.freeC x c hc⟩ hs,by simpa using I.len⟩ ⟨c,hs,.inr hc⟩
  ·exact (hs.2 b (yay (yaP (yar e) (I.ok.cab x c C hc)))).trans (I.base.keep b o e n F g)
  ·obtain ⟨sl,e1⟩:=I.base.slot b o e n F g;exact ⟨sl,(hs.2 b (yay (yaP (yar e) (I.ok.cab x c C hc)))).trans e1⟩
  ·obtain ⟨o',e1⟩:=I.base.there b o e g;exact ⟨o',(hs.2 b (yay (yaP (yar e) (I.ok.cab x c C hc)))).trans e1⟩
  ·by_cases D:j=i
   ·subst D;rw [hi] at e1;cases e1;rw [List.getElem?_set_self B] at e2;cases e2;exact ⟨u,r,.inr ⟨.inl t,c,hc,O⟩⟩
   ·rw [List.getElem?_set_ne (ybt D)] at e2;obtain ⟨Z,Y,q⟩:=hl j y v' e1 e2 e3;refine ⟨Z,Y,?_⟩;rcases q with q | ⟨k,W,e,z'⟩
    ·exact .inl q
    ·refine .inr ⟨k,W,e,z'.sameBut hs ?_⟩;rintro rfl;exact D (zhD hN e1 (I.ok.inj _ _ _ e hc ▸ hi))
  ·by_cases G:W=c
   ·subst G;exact ⟨_,O⟩
   ·obtain ⟨w2,z2⟩:=I.cell y W e;exact ⟨w2,z2.sameBut hs G⟩
  ·obtain ⟨e,n,U,nf,d⟩:=I.pin p hp;refine ⟨(hs.2 p.1 ?_).trans e,n,U,nf,d⟩;intro q;rw [q,L] at e;have q':oc=p.2:=yaz e;exact d S (by rw [<- q'];exact R)
theorem zhV {M:Model} {A:yaM} {E:yae->yag->Prop} {i:Nat} {x:Str} {v:V} {u:yae} {Q:Unit->yag->Prop} (I:Inv X pins σ H s) (d:X.N.Nodup) (hi:X.N[i]? = some x) (c:Loc X.env.scope x) (r:RelV v u)
  (h:∀ a,Inv X pins (σ.set i (some v)) H a->Q () a) (e:X.fn x=true\/X.env.scope.names.lookup x=some .local:=by first | exact .inl rfl | exact .inr rfl | assumption):wpAny M A (storeName X.env x u) Q E s :=
 zgK I d hi c r (λa b _=>h a b) e
theorem Inv.call' {a:yag} {ch:List Addr} (I:Inv X pins σ H s) (i:a.os=s.os) (u:Un (frs X.stack) ch H H' s.heap a.heap) (f:HOk X.prog X.w H' a.heap) (g:AllBare a.gens)
  (d:∀ b∈ch,(b∈X.ex\/X.s₀.heap.objs.size<=b)/\b≠X.env.locals/\(∀ x c,X.env.cells.lookup x=some c->c≠b)/\∀ p∈X.pn++pins,p.1≠b):Inv X pins σ H' a:=by
 obtain ⟨h',g',d',t',h⟩:=a;have e:h=s.os:=i;subst e;exact I.call (g':=g') (t':=t') (d':=d') u f g d
end
abbrev XK:=yae->Option Addr->Hp->Prop
abbrev St:=List (Option V)
abbrev VK:=V->Hp->Prop
abbrev TE:=St->Hp->VK->Prop
abbrev TT:=St->Hp->(Bool->Hp->Prop)->Prop
abbrev TA:=St->Hp->(List V->Hp->Prop)->Prop
structure Ends where
 nx:St->Hp->Prop
 rt:VK
 bk:St->Hp->Prop:=λ_ _=>False
 ct:St->Hp->Prop:=λ_ _=>False
abbrev TS:=Ends->St->Hp->Prop
def EP (X:Cx) (pins:List (Addr×Obj)) (σ:St) (Q:VK) (u:yae) (s':yag):Prop:=∃ v H',Inv X pins σ H' s'/\RelV v u/\Q v H'
def TP (X:Cx) (pins:List (Addr×Obj)) (σ:St) (Q:Bool->Hp->Prop) (b:Bool) (s':yag):Prop:=∃ H',Inv X pins σ H' s'/\Q b H'
def AP (X:Cx) (pins:List (Addr×Obj)) (σ:St) (Q:List V->Hp->Prop) (us:List yae) (s':yag):Prop:=∃ vs H',Inv X pins σ H' s'/\Vals vs us/\Q vs H'
def SP (X:Cx) (pins:List (Addr×Obj)) (D:Ends) (f:Flow) (s':yag):Prop :=
 match f with
 | .next=>∃ σ' H',Inv X pins σ' H' s'/\D.nx σ' H'
 | .brk=>∃ σ' H',Inv X pins σ' H' s'/\D.bk σ' H'
 | .cont=>∃ σ' H',Inv X pins σ' H' s'/\D.ct σ' H'
 | .ret u=>∃ v σ' H',Inv X pins σ' H' s'/\RelV v u/\D.rt v H'
def PE (X:Cx) (e:Expr) (t:TE):Prop :=
 ∀ (pins:List (Addr×Obj)) (s:yag) (σ:St) (H:Hp) (Q:VK),Inv X pins σ H s->t σ H Q->wpAny (model X.prog X.w) X.A (eval e X.env) (EP X pins σ Q) X.xe s
def PT (X:Cx) (e:Expr) (t:TT):Prop :=
 ∀ (pins:List (Addr×Obj)) (s:yag) (σ:St) (H:Hp) (Q:Bool->Hp->Prop),Inv X pins σ H s->t σ H Q->wpAny (model X.prog X.w) X.A (isTrue e X.env (eval e X.env)) (TP X pins σ Q) X.xe s
def PW (X:Cx) (e:Expr) (t:TT):Prop :=
 ∀ (whole:Sem yae) (pins:List (Addr×Obj)) (s:yag) (σ:St) (H:Hp) (Q:Bool->Hp->Prop),Inv X pins σ H s->t σ H Q->wpAny (model X.prog X.w) X.A (isTrue e X.env whole) (TP X pins σ Q) X.xe s
theorem PW.pt {X:Cx} {e:Expr} {t:TT} (h:PW X e t):PT X e t:=h _
def PA (X:Cx) (es:List Expr) (t:TA):Prop :=
 ∀ (pos:Pos) (pins:List (Addr×Obj)) (s:yag) (σ:St) (H:Hp) (Q:List V->Hp->Prop),Inv X pins σ H s->t σ H Q->wpAny (model X.prog X.w) X.A (spliced (ydM pos (yaZ es X.env))) (AP X pins σ Q) X.xe s
def PS (X:Cx) (st:Stmt) (t:TS):Prop :=
 ∀ (pins:List (Addr×Obj)) (s:yag) (σ:St) (H:Hp) (D:Ends),Inv X pins σ H s->t D σ H->wpAny (model X.prog X.w) X.A (exec st X.env) (SP X pins D) X.xe s
def PSs (X:Cx) (st:List Stmt) (t:TS):Prop :=
 ∀ (pins:List (Addr×Obj)) (s:yag) (σ:St) (H:Hp) (D:Ends),Inv X pins σ H s->t D σ H->wpAny (model X.prog X.w) X.A (execs st X.env) (SP X pins D) X.xe s
theorem thn {α:Type} {t:Sem α} {Q b:α->yag->Prop} {M:Model} {A:yaM} {E:yae->yag->Prop} {s:yag} (h:wpAny M A t Q E s) (c:∀ a s,Q a s->b a s):wpAny M A t b E s:=ybJ h c λ_ _ x=>x
section
variable {X:Cx}
def tVar (i:Nat):TE:=λσ H Q=>∃ v,σ[i]? = some (some v)/\Q v H
def tC (v:V):TE:=λ_ H Q=>Q v H
theorem pe_var {i:Nat} {x:Str} {pos:Pos} (n:X.N[i]? = some x) (k:Vis X.env.scope x) (hd:(x == ("__debug__" : Str))=false:=by decide) (d:(x == ("__classdict__" : Str))=false:=by decide):PE X (.Name x pos) (tVar i):=by
 intro pins s o H Q I h;obtain ⟨v,e,h⟩:=h;obtain ⟨m,j,f⟩:=I.loc;obtain ⟨u,r,l⟩:=f i x v n e k;have fin:EP X pins o Q u s:=⟨v,H,I,r,h⟩;rcases l with ⟨b,g⟩ | ⟨b,c,hc,a⟩
 ·exact wpAny_Name (wpAny_loadName_local I.ok.kind b j g fin) hd
 ·rcases b with b | b
  ·exact wpAny_Name (wpAny_loadName_cell I.ok.kind b hc a fin) hd
  ·exact wpAny_Name (wpAny_loadName_free I.ok.kind b hc a fin d) hd
theorem zac {i j pos}:PE X (.Constant (.int i) j pos) (tC (.int i)):=λ_ _ _ H _ I h=>wpAny_Constant_int ⟨.int i,H,I.tok _,⟨_,rfl⟩,h⟩
theorem pe_bl {b j pos}:PE X (.Constant (.bool b) j pos) (tC (.bl b)):=λ_ _ _ H _ I h=>Constant_bool ⟨.bl b,H,I,rfl,h⟩
theorem zez {j pos}:PE X (.Constant .none j pos) (tC .non):=λ_ _ _ H _ I h=>Constant_none ⟨.non,H,I,rfl,h⟩
theorem zbE {x j pos}:PE X (.Constant (.str x) j pos) (tC (.str x)):=λ_ _ _ H _ I h=>Calls.Constant_str ⟨.str x,H,I.tok _,⟨_,rfl⟩,h⟩
def Gl (X:Cx) (x:Str):Prop:=X.env.kindOf x=some .globalImplicit
theorem zhy {E:yae->yag->Prop} {pins:List (Addr×Obj)} {s:yag} {c:St} {H:Hp} {x:Str} {u:yae} {pos:Pos} {Q:yae->yag->Prop} (I:Inv X pins c H s) (a:Gl X x) (b:X.mg x=some u) (h:Q u s)
  (hd:(x == ("__debug__" : Str))=false:=by decide):wpAny (model X.prog X.w) X.A (eval (.Name x pos) X.env) Q E s :=
 Calls.Name_function_global I.ok.kind a (Calls.loadGlobal_global (by rw [I.ok.glob];exact I.mod.glob.keeps I.bk) b h) hd
theorem zdh {E:yae->yag->Prop} {pins:List (Addr×Obj)} {s:yag} {a:St} {H:Hp} {x:Str} {u:yae} {pos:Pos} {Q:yae->yag->Prop} (I:Inv X pins a H s) (b:Gl X x) (c:X.mg x=none) (e:ybf x=some u) (h:Q u s)
  (d:x ≠ "__name__":=by decide) (hd:(x == ("__debug__" : Str))=false:=by decide):wpAny (model X.prog X.w) X.A (eval (.Name x pos) X.env) Q E s:=by
 obtain ⟨f,h1,h2⟩:=I.mod.blt;exact Calls.Name_function_global I.ok.kind b (Calls.loadGlobal_builtin (by rw [I.ok.glob];exact I.mod.glob.keeps I.bk) c (by rw [I.ok.blt];exact h1.keeps I.bk) ((h2 x d).trans e) h) hd
theorem zdy {x:Str} {v:V} {u:yae} {pos:Pos} (a:Gl X x) (b:X.mg x=some u) (r:RelV v u) (hd:(x == ("__debug__" : Str))=false:=by decide):PE X (.Name x pos) (tC v) :=
 λ_ _ _ H _ I h=>zhy I a b ⟨v,H,I,r,h⟩ hd
theorem zbH {x:Str} {v:V} {u:yae} {pos:Pos} (a:Gl X x) (b:X.mg x=none) (d:ybf x=some u) (r:RelV v u) (c:x ≠ "__name__":=by decide) (hd:(x == ("__debug__" : Str))=false:=by decide):PE X (.Name x pos) (tC v) :=
 λ_ _ _ H _ I h=>zdh I a b d ⟨v,H,I,r,h⟩ c hd
variable {a b:Expr} {ta tb:TE} {pos:Pos}
def PC (X:Cx) (op:CmpOp) (a b:Expr) (t:TE):Prop :=
 ∀ (pins:List (Addr×Obj)) (s:yag) (σ:St) (H:Hp) (Q:VK),Inv X pins σ H s->t σ H Q ->
  wpAny (model X.prog X.w) X.A (eval a X.env) (λv s₁=>wpAny (model X.prog X.w) X.A (eval b X.env) (λu s₂=>wpAny (model X.prog X.w) X.A (yba op v u) (EP X pins σ Q) X.xe s₂) X.xe s₁) X.xe s
theorem zhN (b:Expr) {op:CmpOp} (h:op ≠ .In) (h2:op ≠ .NotIn):yc9 op b=false:=by
 have e1:(op == CmpOp.In)=false:=by cases op <;> first | rfl | exact absurd rfl h
 have e2:(op == CmpOp.NotIn)=false:=by cases op <;> first | rfl | exact absurd rfl h2
 cases b <;> simp [yc9,e1,e2]
def tIsN (ta:TE):TE:=λσ H Q=>ta σ H λx H1=>Q (.bl (decide (x = .non))) H1
def tNotN (ta:TE):TE:=λσ H Q=>ta σ H λx H1=>Q (.bl (!decide (x = .non))) H1
theorem RelV.none_iff {x:V} {v:yae} (r:RelV x v):(v == ycm)=decide (x = .non):=by
 cases x with
 | non=>cases r;rfl
 | bl _=>cases r;rfl
 | int _=>obtain ⟨t,rfl⟩:=r;rfl
 | str _=>obtain ⟨t,rfl⟩:=r;rfl
 | byt _=>obtain ⟨t,rfl⟩:=r;rfl
 | flt _=>obtain ⟨t,rfl⟩:=r;rfl
 | ref _=>cases r;rfl
 | ty _=>cases r;rfl
theorem zid {j pos'} (d:PE X a ta):PC X .Is a (.Constant .none j pos') (tIsN ta):=by
 intro pins s e H Q I h;refine thn (d pins s e H _ I h) λv k b => ?_;obtain ⟨x,f,i,g,c⟩:=b;exact Constant_none (is_none_gen ⟨.bl _,f,i,by rw [g.none_iff];rfl,c⟩)
theorem zht {j pos'} (d:PE X a ta):PC X .IsNot a (.Constant .none j pos') (tNotN ta):=by
 intro pins s e H Q I h;refine thn (d pins s e H _ I h) λv k b => ?_;obtain ⟨x,f,i,g,c⟩:=b;exact Constant_none (isnot_none_gen ⟨.bl _,f,i,by rw [g.none_iff];rfl,c⟩)
def tB (t:TE):TT:=λσ H Q=>t σ H λx H1=>∃ c,x = .bl c/\Q c H1
theorem pe_cmp {op:CmpOp} {t:TE} (h:PC X op a b t) (h1:yc9 op b=false:=by first | exact zhN _ (by decide) (by decide) | rfl):PE X (.Compare a [op] [b] pos) t:=λpins s c H Q I hw=>wpAny_Compare1 (h pins s c H Q I hw) h1
theorem zdg {op:CmpOp} {t:TE} (h:PC X op a b t) (h1:yc9 op b=false:=by first | exact zhN _ (by decide) (by decide) | rfl):PT X (.Compare a [op] [b] pos) (tB t):=by
 intro pins s j H Q I hw;refine wpAny_isTrue_Compare1 (thn (h pins s j H _ I hw) λv m h1=>thn h1 λu n h2=>thn h2 λc l e => ?_) h1;obtain ⟨x,g,k,f,i⟩:=e;obtain ⟨d,rfl,q⟩:=i;cases f;exact ybj ⟨g,k,q⟩
theorem za8 {e:Expr} {t:TE} (h:PE X e t) (c:∀ whole,isTrue e X.env whole=(do let v <- whole;standAt e.pos;holding [v] (truthy v)):=by intro _;rfl):PT X e (tB t):=by
 intro pins s i H Q I hw;refine isTrue_plain (thn (h pins s i H _ I hw) λv k a => ?_) (c _);obtain ⟨x,f,j,b,g⟩:=a;obtain ⟨d,rfl,q⟩:=g;cases b;exact ybj ⟨f,j,q⟩
variable {tA tB':TT} {rest:List Expr}
def tAnd (t u:TT):TT:=λσ H Q=>t σ H λc H1=>if c=true then u σ H1 Q else Q false H1
def tOr (t u:TT):TT:=λσ H Q=>t σ H λc H1=>if c=true then Q true H1 else u σ H1 Q
def tNot (t:TT):TT:=λσ H Q=>t σ H λc H1=>Q (!c) H1
theorem zeP (b:PT X a tA):PW X (.BoolOp .And [a] pos) tA:=by
 intro f pins s d H Q I h;refine isTrue_and (thn (b pins s d H Q I h) λc g e => ?_);cases c with
 | true=>exact isTrue_and_nil e
 | false=>exact e
theorem zcB (b:PT X a tA):PW X (.BoolOp .Or [a] pos) tA:=by
 intro f pins s d H Q I h;refine isTrue_or (thn (b pins s d H Q I h) λc g e => ?_);cases c with
 | false=>exact isTrue_or_nil e
 | true=>exact e
theorem zgn (j:PT X a tA) (m:PW X (.BoolOp .And (b :: rest) pos) tB'):PW X (.BoolOp .And (a :: b :: rest) pos) (tAnd tA tB'):=by
 intro k pins s f H Q I h;refine isTrue_and (thn (j pins s f H _ I h) λc l d => ?_);obtain ⟨g,i,e⟩:=d;cases c with
 | true=>exact m k pins l f g Q i e
 | false=>exact ⟨g,i,e⟩
theorem pw_or (j:PT X a tA) (m:PW X (.BoolOp .Or (b :: rest) pos) tB'):PW X (.BoolOp .Or (a :: b :: rest) pos) (tOr tA tB'):=by
 intro k pins s f H Q I h;refine isTrue_or (thn (j pins s f H _ I h) λc l d => ?_);obtain ⟨g,i,e⟩:=d;cases c with
 | true=>exact ⟨g,i,e⟩
 | false=>exact m k pins l f g Q i e
theorem zbb (b:PT X a tA):PT X (.UnaryOp .Not a pos) (tNot tA):=by
 intro pins s d H Q I h;exact isTrue_not (b pins s d H (λc e=>Q (!c) e) I h)
def tAndV (ta tb:TE):TE:=λσ H Q=>ta σ H λx H1=>∃ c,x = .bl c/\if c=true then tb σ H1 Q else Q (.bl false) H1
def tOrV (ta tb:TE):TE:=λσ H Q=>ta σ H λx H1=>∃ c,x = .bl c/\if c=true then Q (.bl true) H1 else tb σ H1 Q
def tNotV (ta:TE):TE:=λσ H Q=>ta σ H λx H1=>∃ c,x = .bl c/\Q (.bl (!c)) H1
theorem zcR {op} {t:TE} (h:PE X a t):PE X (.BoolOp op [a] pos) t:=λpins s b H Q I hw=>BoolOp_one (h pins s b H Q I hw)
theorem zdY (k:PE X a ta) (m:PE X (.BoolOp .And (b :: rest) pos) tb):PE X (.BoolOp .And (a :: b :: rest) pos) (tAndV ta tb):=by
 intro pins s f H Q I h;refine BoolOp_and (thn (k pins s f H _ I h) λv l e => ?_);obtain ⟨x,g,i,j,d⟩:=e;obtain ⟨c,rfl,d⟩:=d;cases j;refine ybj ?_;cases c with
 | true=>exact m pins l f g Q i d
 | false=>exact ⟨.bl false,g,i,rfl,d⟩
theorem pe_or (k:PE X a ta) (m:PE X (.BoolOp .Or (b :: rest) pos) tb):PE X (.BoolOp .Or (a :: b :: rest) pos) (tOrV ta tb):=by
 intro pins s f H Q I h;refine BoolOp_or (thn (k pins s f H _ I h) λv l e => ?_);obtain ⟨x,g,i,j,d⟩:=e;obtain ⟨c,rfl,d⟩:=d;cases j;refine ybj ?_;cases c with
 | false=>exact m pins l f g Q i d
 | true=>exact ⟨.bl true,g,i,rfl,d⟩
theorem pe_not (e:PE X a ta):PE X (.UnaryOp .Not a pos) (tNotV ta):=by
 intro pins s g H Q I h;refine UnaryOp_ (thn (e pins s g H _ I h) λv k d => ?_);obtain ⟨x,i,f,j,b⟩:=d;obtain ⟨c,rfl,b⟩:=b;cases j;exact not_of (ybj ⟨.bl (!c),i,f,rfl,b⟩)
def tIf (t:TT) (ta tb:TE):TE:=λσ H Q=>t σ H λc H1=>if c=true then ta σ H1 Q else tb σ H1 Q
theorem pe_ifExp {c:Expr} (hc:PT X c tA) (l:PE X a ta) (m:PE X b tb):PE X (.IfExp c a b pos) (tIf tA ta tb):=by
 intro pins s e H Q I h;refine wpAny_IfExp (thn (hc pins s e H _ I h) λd j f => ?_);obtain ⟨k,i,g⟩:=f;cases d with
 | true=>exact l pins j e k Q i g
 | false=>exact m pins j e k Q i g
end
def SqL (K:PySem.W.Frag) (H:Hp) (a:Addr) (xs:List V):Prop :=
 Rd H a (.lst xs) \/
  ∃ (o:Obj) (its:Array yae) (n:Nat),K.lookup a=some o/\o.cls = .type "list"/\o.dict=none/\o.data = .seq its n/\its.size<=yaO/\Vals xs its.toList
def SqT (K:PySem.W.Frag) (H:Hp) (a:Addr) (xs:List V):Prop :=
 Rd H a (.tup xs) \/
  ∃ (o:Obj) (its:Array yae) (n:Nat),K.lookup a=some o/\o.cls = .type "tuple"/\o.data = .seq its n/\its.size<=yaO/\Vals xs its.toList
noncomputable def absV:yae->Option V
 | .none=>some .non
 | .bool b=>some (.bl b)
 | .int i _=>some (.int i)
 | .str x _=>some (.str x)
 | .bytes b _=>some (.byt b)
 | .float b _=>some (.flt b)
 | .ref a=>some (.ref a)
 | .type n=>some (.ty n)
 | _=>none
theorem RelV.abs {x:V} {u:yae} (r:RelV x u):absV u=some x:=by
 cases x with
 | non=>cases r;rfl
 | bl _=>cases r;rfl
 | int _=>obtain ⟨t,rfl⟩:=r;rfl
 | str _=>obtain ⟨t,rfl⟩:=r;rfl
 | byt _=>obtain ⟨t,rfl⟩:=r;rfl
 | flt _=>obtain ⟨t,rfl⟩:=r;rfl
 | ref _=>cases r;rfl
 | ty _=>cases r;rfl
theorem RelV.inj {x y:V} {u:yae} (r:RelV x u) (q:RelV y u):x=y:=yaz (r.abs.symm.trans q.abs)
theorem Vals.inj:∀ {xs ys:List V} {us:List yae},Vals xs us->Vals ys us->xs=ys:=by
 intro xs ys us h k
 induction h generalizing ys with
 | nil =>
  cases k;rfl
 | cons r t b =>
  cases k with
  | cons a t'=>rw [r.inj a,b t']
section
variable {X:Cx} {pins:List (Addr×Obj)} {σ:St} {H:Hp} {s:yag} {a:Addr} {xs ys:List V}
theorem SqL.of {K:PySem.W.Frag} (h:H a=some (.lst xs)):SqL K H a xs := .inl (.inl h)
theorem SqT.of {K:PySem.W.Frag} (h:H a=some (.tup xs)):SqT K H a xs := .inl (.inl h)
theorem Inv.list (I:Inv X pins σ H s) (h:SqL X.K H a xs):∃ b:List yae,Vals xs b/\PlainL s.heap a b.toArray/\xs.length<=yaO:=by
 rcases h with h | ⟨o,b,n,c,hc,hd,hs,hz,r⟩
 ·obtain ⟨z,b,n,r,e⟩:=h.ok I.hok;exact ⟨b,r,⟨_,n,e,rfl,rfl,rfl⟩,z⟩
 ·refine ⟨b.toList,r,⟨o,n,I.kIn a o c,hc,hd,by simpa using hs⟩,?_⟩;have e:=r.length;simp only [ybu] at e;omega
theorem Inv.tuple (I:Inv X pins σ H s) (h:SqT X.K H a xs):∃ b:List yae,Vals xs b/\IsTup s.heap a b.toArray/\xs.length<=yaO:=by
 rcases h with h | ⟨o,b,n,c,hc,hs,hz,r⟩
 ·obtain ⟨z,b,r,p⟩:=h.ok I.hok;exact ⟨b,r,p,z⟩
 ·refine ⟨b.toList,r,⟨o,I.kIn a o c,hc,n,by simpa using hs⟩,?_⟩;have e:=r.length;simp only [ybu] at e;omega
theorem Inv.list_inj (I:Inv X pins σ H s) (h:SqL X.K H a xs) (h':SqL X.K H a ys):xs=ys:=by
 obtain ⟨b,r,⟨o,n,e,_,_,d⟩,_⟩:=I.list h;obtain ⟨its',f,⟨i,g,c,_,_,d'⟩,_⟩:=I.list h';rw [e] at c;cases c;rw [d] at d';injection d' with d1 _;have:b=its':=by simpa using congrArg Array.toList d1
 subst this;exact r.inj f
theorem Inv.tuple_inj (I:Inv X pins σ H s) (h:SqT X.K H a xs) (h':SqT X.K H a ys):xs=ys:=by
 obtain ⟨b,r,⟨o,e,_,n,d⟩,_⟩:=I.tuple h;obtain ⟨its',f,⟨i,c,_,g,d'⟩,_⟩:=I.tuple h';rw [e] at c;cases c;rw [d] at d';injection d' with d1 _;have:b=its':=by simpa using congrArg Array.toList d1
 subst this;exact r.inj f
end
abbrev Cx.wish (X:Cx) (E:yae->yag->Prop):Cx:={ X with xe:=E }
abbrev Cx.nox (X:Cx):Cx:=X.wish λ_ _=>False
theorem Cx.Ok.wish {X:Cx} (ok:X.Ok) (E:yae->yag->Prop):(X.wish E).Ok :=
 ⟨ok.mod,ok.kind,ok.glob,ok.blt,ok.above,ok.inj,ok.has,ok.cab,ok.hd,ok.frames,ok.stk,ok.exf,ok.bs,ok.bsz,ok.noex,ok.exfs,ok.funs,ok.frf⟩
theorem Cx.Ok.unwish {X:Cx} {E:yae->yag->Prop} (ok:(X.wish E).Ok):X.Ok :=
 ⟨ok.mod,ok.kind,ok.glob,ok.blt,ok.above,ok.inj,ok.has,ok.cab,ok.hd,ok.frames,ok.stk,ok.exf,ok.bs,ok.bsz,ok.noex,ok.exfs,ok.funs,ok.frf⟩
section
variable {X:Cx} {pins:List (Addr×Obj)} {σ:St} {H:Hp} {s:yag} {E:yae->yag->Prop}
theorem Inv.wish (I:Inv X pins σ H s) (E:yae->yag->Prop):Inv (X.wish E) pins σ H s:=⟨I.ok.wish E,I.os,I.bare,I.base,I.loc,I.cell,I.free,I.freeC,I.pin,I.hok,I.len⟩
theorem Inv.unwish (I:Inv (X.wish E) pins σ H s):Inv X pins σ H s:=⟨I.ok.unwish,I.os,I.bare,I.base,I.loc,I.cell,I.free,I.freeC,I.pin,I.hok,I.len⟩
theorem SP.unwish {D:Ends} {f:Flow} {b:yag} (h:SP (X.wish E) pins D f b):SP X pins D f b:=by
 cases f with
 | next=>obtain ⟨a,H',I,q⟩:=h;exact ⟨a,H',I.unwish,q⟩
 | brk=>obtain ⟨a,H',I,q⟩:=h;exact ⟨a,H',I.unwish,q⟩
 | cont=>obtain ⟨a,H',I,q⟩:=h;exact ⟨a,H',I.unwish,q⟩
 | ret u=>obtain ⟨v,a,H',I,r,q⟩:=h;exact ⟨v,a,H',I.unwish,r,q⟩
theorem PSs.nox {st:List Stmt} {t:TS} (h:PSs X.nox st t):PSs X st t:=λpins s a H D I hw =>
 ybJ (h pins s a H D (I.wish _) hw) (λ_ _ q=>q.unwish) λ_ _ z=>ycF z
end
section
variable {X:Cx} {st:Stmt} {rest:List Stmt} {t u:TS} {e:Expr} {te:TE} {pos:Pos}
def tNext:TS:=λD σ H=>D.nx σ H
def tSeq (t u:TS):TS:=λD σ H=>t { D with nx:=u D } σ H
theorem zau:PSs X [] tNext:=λ_ _ a H _ I h=>wpAny_execs_nil ⟨a,H,I,h⟩
theorem zad (h1:PS X st t) (h2:PSs X rest u):PSs X (st :: rest) (tSeq t u):=by
 intro pins s c H D I h;refine wpAny_execs_cons (thn (h1 pins s c H { D with nx:=u D } I h) λf d q => ?_);cases f with
 | next =>
  obtain ⟨a,H',b,q⟩:=q;exact h2 pins d a H' D b q
 | ret v=>exact q
 | brk=>exact q
 | cont=>exact q
theorem zag (h1:PS X st t):PSs X [st] t:=by
 intro pins s a H D I h;refine wpAny_execs_cons (thn (h1 pins s a H D I h) λf b q => ?_);cases f with
 | next=>exact wpAny_execs_nil q
 | ret v=>exact q
 | brk=>exact q
 | cont=>exact q
theorem Inv.quiet {pins:List (Addr×Obj)} {a:St} {H:Hp} {s:yag} (I:Inv X pins a H s):interactive X.env=false:=by simp [interactive,I.ok.kind]
def tDrop (te:TE):TS:=λD σ H=>te σ H λ_ H1=>D.nx σ H1
theorem zaI (c:PE X e te) (hs:swapsWith e none pos.line X.env=pure false:=by rfl):PS X (.Expr e pos) (tDrop te):=by
 intro pins s a H D I h;exact wpAny_Expr_any (thn (c pins s a H _ I h) (by rintro v g ⟨x,d,f,i,b⟩;exact ⟨a,d,f,b⟩)) I.quiet hs
def tRet (te:TE):TS:=λD σ H=>te σ H D.rt
theorem zao (c:PE X e te):PS X (.Return (some e) pos) (tRet te):=by
 intro pins s a H D I h;exact wpAny_Return_some (thn (c pins s a H _ I h) (by rintro v i ⟨x,d,g,f,b⟩;exact ⟨x,a,d,g,f,b⟩))
def tIfS (c:TT) (t u:TS):TS:=λD σ H=>c σ H λb H1=>if b=true then t D σ H1 else u D σ H1
theorem ps_if {c:Expr} {a b:List Stmt} {i:TT} (hc:PT X c i) (m:PSs X a t) (n:PSs X b u):PS X (.If c a b pos) (tIfS i t u):=by
 intro pins s e H D I h;refine wpAny_If (thn (hc pins s e H _ I h) λd k f => ?_);obtain ⟨j,l,g⟩:=f;cases d with
 | true=>exact m pins k e j D l g
 | false=>exact n pins k e j D l g
def tNever:TS:=λ_ _ _=>False
theorem zbp:PS X st tNever:=λ_ _ _ _ _ _ h=>h.elim
end
abbrev TG:=V->St->Hp->(St->Hp->Prop)->Prop
abbrev TGs:=List V->St->Hp->(St->Hp->Prop)->Prop
def PG (X:Cx) (target:Expr) (t:TG):Prop :=
 ∀ (pins:List (Addr×Obj)) (s:yag) (σ:St) (H:Hp) (v:V) (u:yae) (Q:St->Hp->Prop),Inv X pins σ H s->RelV v u->t v σ H Q ->
  wpAny (model X.prog X.w) X.A (assign target X.env u) (λ_ s'=>∃ σ' H',Inv X pins σ' H' s'/\Q σ' H') X.xe s
def PGs (X:Cx) (ts:List Expr) (t:TGs):Prop :=
 ∀ (pins:List (Addr×Obj)) (s:yag) (σ:St) (H:Hp) (vs:List V) (us:List yae) (Q:St->Hp->Prop),Inv X pins σ H s->Vals vs us->t vs σ H Q ->
  wpAny (model X.prog X.w) X.A (assignInOrder ((yex ts X.env).map (·.2)) us) (λ_ s'=>∃ σ' H',Inv X pins σ' H' s'/\Q σ' H') X.xe s
abbrev TSet:=V->V->V->Hp->(Hp->Prop)->Prop
def PSet (X:Cx) (t:TSet):Prop :=
 ∀ (pins:List (Addr×Obj)) (s:yag) (σ:St) (H:Hp) (o i v:V) (ov iv u:yae) (Q:Hp->Prop),Inv X pins σ H s->RelV o ov->RelV i iv->RelV v u->t o i v H Q ->
  wpAny (model X.prog X.w) X.A (setItem ov iv u) (λ_ s'=>∃ H',Inv X pins σ H' s'/\Q H') X.xe s
section
variable {X:Cx} {pos:Pos}
def gName (i:Nat):TG:=λv σ H Q=>Q (σ.set i (some v)) H
theorem zal {i:Nat} {x:Str} (c:X.N.Nodup) (hi:X.N[i]? = some x) (b:Loc X.env.scope x) (d:X.fn x=true\/X.env.scope.names.lookup x=some .local:=by first | exact .inl rfl | exact .inr rfl | assumption):PG X (.Name x pos) (gName i):=by
 intro pins s f H v u Q I r h;exact wpAny_assign_Name (zhV I c hi b r (λe a=>⟨_,H,a,h⟩) d)
def gNil:TGs:=λvs σ H Q=>vs = []/\Q σ H
def gCons (t:TG) (u:TGs):TGs:=λvs σ H Q=>∃ v r,vs=v :: r/\t v σ H λσ' H'=>u r σ' H' Q
theorem zbj:PGs X [] gNil:=by
 intro pins s a H vs us Q I r h;obtain ⟨e,h⟩:=h;subst e;cases r;exact assignInOrder_nil ⟨a,H,I,h⟩
theorem zat {e:Expr} {es:List Expr} {t:TG} {u:TGs} (h1:PG X e t) (h2:PGs X es u)
  (hs:(yex (e :: es) X.env).map (·.2)=assign e X.env :: (yex es X.env).map (·.2):=by rfl):PGs X (e :: es) (gCons t u):=by
 intro pins s i H vs us Q I r h;obtain ⟨v,k,e1,h⟩:=h;subst e1;cases r with
 | cons r c =>
  rw [hs];refine assignInOrder_cons (thn (h1 pins s i H _ _ _ I r h) λ_ d b => ?_);obtain ⟨a,f,j,g⟩:=b;exact h2 pins d a f _ _ Q j c g
def gTup (K:PySem.W.Frag) (n:Nat) (t:TGs):TG:=λv σ H Q=>∃ a xs,v = .ref a/\SqT K H a xs/\xs.length=n/\t xs σ H Q
theorem pg_tup {es:List Expr} {k:Nat} {t:TGs} {n:Nat} (hc:X.calm=true) (h:PGs X es t)
  (m:(yex es X.env).length=n:=by rfl) (c:(yex es X.env).findIdx? (·.1)=none:=by rfl):PG X (.Tuple es k pos) (gTup X.K n t):=by
 intro pins s d H v u Q I r hw;obtain ⟨a,xs,e1,g,l,hw⟩:=hw;subst e1;cases r;obtain ⟨i,f,j,hz⟩:=I.tuple g;refine assign_Tuple_tuple (I.ok.hd hc) j (by simp [m,<- l,f.length]) c λh' p => ?_;have q:Inv X pins d H { s with heap:=h' }:=I.kept (t':=s.toks) λb o e=>p b o (yay (yar e)) e;exact h pins _ d H xs _ Q q (by simpa using f) hw
def gSub (to ti:TE) (t:TSet):TG:=λv σ H Q=>to σ H λo H1=>ti σ H1 λi H2=>t o i v H2 λH3=>Q σ H3
theorem pg_sub {o i:Expr} {e f:TE} {t:TSet} (k:PE X o e) (hi:PE X i f) (hs:PSet X t)
  (D:∀ v,assign (.Subscript o i pos) X.env v=(do
   let b <- holding [v] (eval o X.env);let c <- holding [v,b] (eval i X.env)
   standAt pos
   holding [v,b,c] (setItem b c v)
   release [v,b,c] []):=by intro _;rfl):PG X (.Subscript o i pos) (gSub e f t):=by
 intro pins s d H v u Q I r h;rw [D];refine yac (ya1 (thn (k pins s d H _ I h) λb q a => ?_));obtain ⟨x,z,F,m,A⟩:=a;refine yac (ya1 (thn (hi pins q d z _ F A) λc B a => ?_));obtain ⟨y,n,l,g,E⟩:=a;refine yac (wpAny_standAt (yac (ya1 (thn (hs pins B d n x y v b c u _ l m g r E) λ_ G a => ?_))));obtain ⟨j,p,C⟩:=a;exact wpAny_release ⟨d,j,p,C⟩
def tAsg (te:TE) (g:TG):TS:=λD σ H=>te σ H λx H1=>g x σ H1 D.nx
theorem ps_asg {a e:Expr} {d:TE} {g:TG} (k:PE X e d) (j:PG X a g) (hs:swapsWithSole [a] e pos.line X.env=pure false:=by rfl) (hw:swappedStores [a] e X.env=pure none:=by rfl)
  (h1:(yex [a] X.env).map (·.2) = [assign a X.env]:=by rfl):PS X (.Assign [a] e pos) (tAsg d g):=by
 intro pins s c H D I h;refine wpAny_Assign_stores (thn (k pins s c H _ I h) λv m b => ?_) hs hw;obtain ⟨x,l,n,i,f⟩:=b;rw [h1];exact thn (j pins m c l x v _ n i f) λ_ o q=>q
theorem zas {i:Nat} {x:Str} {e:Expr} {c:TE} {a:Pos} (o:X.N.Nodup) (hi:X.N[i]? = some x) (n:Loc X.env.scope x) (l:PE X e c) (hs:swapsWith e (some (.Name x a)) pos.line X.env=pure false:=by rfl) (g:X.fn x=true\/X.env.scope.names.lookup x=some .local:=by first | exact .inl rfl | exact .inr rfl | assumption) :
  PS X (.Assign [.Name x a] e pos) (tAsg c (gName i)):=by
 intro pins s f H D I h;refine wpAny_Assign_Name (thn (l pins s f H _ I h) λv r b => ?_) hs;obtain ⟨y,m,p,k,d⟩:=b;exact zhV p o hi n k (λq j=>⟨_,m,j,d⟩) g
end
structure It where
 go:Nat->Hp->Prop
 yld:Nat->Hp->V->Hp->Prop
 stop:Nat->Hp->Prop
def FpOk (X:Cx) (pins:List (Addr×Obj)) (H:Hp) (b:Addr):Prop :=
 H b=none/\b≠X.env.locals/\b∉X.fs/\(b∈X.ex\/X.s₀.heap.objs.size<=b)/\(∀ x c,X.env.cells.lookup x=some c->c≠b)/\∀ p∈X.pn++pins,p.1≠b
theorem Inv.fpOk {X:Cx} {pins:List (Addr×Obj)} {g:St} {H H':Hp} {s:yag} {b:Addr} (I:Inv X pins g H s) (a:s.heap.objs.size<=b) (f:H' b=none):FpOk X pins H' b:=by
 refine ⟨f,yby (yaP I.lt a),I.nofs a,.inr (yaY I.sz a),λx c e z => ?_,λp d z => ?_⟩
 ·obtain ⟨v,q⟩:=I.cell x c e;exact absurd (yaP q.lt (by rw [z];exact a)) (yc8 _)
 ·exact absurd (yaP (yar (I.pin p d).1) (by rw [z];exact a)) (yc8 _)
structure Turn (P:yas) (w:yaS) (K:PySem.W.Frag) (tg:Expr) (J:It) (fp:List Addr) (it:Addr) (tn:Nat->Heap->Prop):Prop where
 mem:it∈fp
 obj:∀ i h,tn i h->∀ b∈fp,∃ o,h.get? b=some o/\∀ v,o.data ≠ .cell v
 keep:∀ i h h',tn i h->(∀ b∈fp,∀ o,h.get? b=some o->h'.get? b=some o)->tn i h'
 item:∀ (X:Cx),X.prog=P->X.w=w->X.K=K->X.calm=true->∀ (i:Nat) (pins:List (Addr×Obj)) (s:yag) (σ:St) (H:Hp) (E:yae->yag->Prop),Inv X pins σ H s->(∀ b∈fp,FpOk X pins H b)->tn i s.heap->J.go i H ->
  wpAny (model P w) X.A (yd9 (.ref it)) (λr s1=>∃ u,r=some u /\
   wpAny (model P w) X.A (ye7 tg (.ref it) u) (λ_ s2=>∃ x H',Inv X pins σ H' s2/\RelV x u/\J.yld i H x H'/\tn (i+1) s2.heap/\∀ b∈fp,H' b=none) E s1) E s
 done:∀ (X:Cx),X.prog=P->X.w=w->X.K=K->X.calm=true->∀ (i:Nat) (pins:List (Addr×Obj)) (s:yag) (σ:St) (H:Hp) (E:yae->yag->Prop),Inv X pins σ H s->(∀ b∈fp,FpOk X pins H b)->tn i s.heap->J.stop i H ->
  wpAny (model P w) X.A (yd9 (.ref it)) (λr s1=>r=none/\Inv X pins σ H s1) E s
 self:∀ (A:yaM) (i:Nat) (s:yag) (Q:yae->yag->Prop) (E:yae->yag->Prop),tn i s.heap->Q (.ref it) s->wpAny (model P w) A (pyIter (.ref it)) Q E s
abbrev TI:=St->Hp->(It->Hp->Prop)->Prop
def PIE (X:Cx) (pins:List (Addr×Obj)) (σ:St) (tg:Expr) (R:It->Hp->Prop) (itv:yae) (s2:yag):Prop :=
 ∃ (it:Addr) (fp:List Addr) (tn:Nat->Heap->Prop) (J:It) (H':Hp),itv = .ref it/\Inv X pins σ H' s2/\Turn X.prog X.w X.K tg J fp it tn/\tn 0 s2.heap/\(∀ b∈fp,FpOk X pins H' b)/\R J H'
def PI (X:Cx) (tg iter:Expr) (wi:TI):Prop :=
 ∀ (pins:List (Addr×Obj)) (s:yag) (σ:St) (H:Hp) (R:It->Hp->Prop),Inv X pins σ H s->wi σ H R ->
  wpAny (model X.prog X.w) X.A (eval iter X.env) (λv s1=>wpAny (model X.prog X.w) X.A (pyIter v) (PIE X pins σ tg R) X.xe s1) X.xe s
theorem go_of {M:Model} {A:yaM} {E:yae->yag->Prop} {s:yag} {b:Expr} {it:Addr} {u:yae} {o:Obj} {n:String} {vs:Array yae} {Q:Unit->yag->Prop} (c:s.heap.get? it=some o) (hc:o.cls = .type n) (hd:o.data = .fields vs)
  (d : ["enumerate", "zip", "dict_itemiterator", "dict_reverseitemiterator", "odict_iterator", "itertools.zip_longest", "itertools.pairwise"].contains n=false) (a:Q () s):wpAny M A (ye7 b (.ref it) u) Q E s:=by
 unfold ye7;cases b <;> first
  | exact yah a
  | (cases u <;> first
    | exact yah a
    | (refine yac (wpAny_load c ?_)
       rw [hc,hd];show wpAny M A (if (["enumerate", "zip", "dict_itemiterator", "dict_reverseitemiterator", "odict_iterator", "itertools.zip_longest", "itertools.pairwise"].contains n&&vs[0]? == some (yet _))=true then _ else _) Q E s;rw [if_neg (by intro h;rw [d,ycR] at h;cases h)];exact yah a))
def Itl (K:PySem.W.Frag) (a:Addr):It :=
 ⟨λi H=>∃ xs x,SqL K H a xs/\xs[i]? = some x,λi H x H'=>H'=H/\∀ xs,SqL K H a xs->xs[i]? = some x,λi H=>∃ xs,SqL K H a xs/\xs.length<=i⟩
def Itt (K:PySem.W.Frag) (a:Addr):It :=
 ⟨λi H=>∃ xs x,SqT K H a xs/\xs[i]? = some x,λi H x H'=>H'=H/\∀ xs,SqT K H a xs->xs[i]? = some x,λi H=>∃ xs,SqT K H a xs/\xs.length<=i⟩
def Itr (lo:Int) (n:Nat):It:=⟨λi _=>i < n,λi H x H'=>H'=H/\x = .int (lo+i),λi _=>n<=i⟩
theorem turn_list {P:yas} {w:yaS} {K:PySem.W.Frag} {J:Expr} (a it:Addr):Turn P w K J (Itl K a) [it] it (λi h=>h.IsListIter it a i) where
 mem:=by simp
 obj:=λi h st b f=>by
  have e:b=it:=by simpa using f
  subst e;obtain ⟨o,e,c,d⟩:=st;exact ⟨o,e,λv z=>by rw [d] at z;cases z⟩
 keep:=λi h h' st k=>st.at λo e=>k it (by simp) o e
 item:=by
  intro X r hw C hc i pins s G H E I l st A;subst r hw C;obtain ⟨xs,x,j,t⟩:=A;obtain ⟨n,D,p,hz⟩:=I.list j;obtain ⟨u,M,O⟩:=D.get t;obtain ⟨F,q,Q,m,y,B⟩:=l it (by simp);refine wpAny_pyNext_list_item st p.isList (x:=u) (by simpa using M) λh' g N => ?_;have R:Inv X pins G H { s with heap:=h' }:=I.turned (t':=s.toks) (λb o f e=>(N.2 b f).trans e) F q m y B;obtain ⟨o,e,c,d⟩:=id g;exact ⟨u,rfl,go_of (s:={ s with heap:=h' }) e c d (by decide) ⟨x,H,R,O,⟨rfl,λys S=>by rw [I.list_inj S j];exact t⟩,g,λb f=>(l b f).1⟩⟩
 done:=by
  intro X r hw C hc i pins s G H E I l st A;subst r hw C;obtain ⟨xs,j,t⟩:=A;obtain ⟨n,D,p,hz⟩:=I.list j;obtain ⟨F,q,Q,m,y,B⟩:=l it (by simp);have U:=D.length;exact wpAny_pyNext_list_end (I.ok.hd hc) st p.isList (by simp;omega) λh' L=>⟨rfl,I.turned (t':=s.toks) (λb o f e=>L b o f e) F q m y B⟩
 self:=λ_ _ _ _ _ st h=>wpAny_pyIter_listiter st h
theorem zih {P:yas} {w:yaS} {K:PySem.W.Frag} {J:Expr} (a it:Addr):Turn P w K J (Itt K a) [it] it (λi h=>h.IsTupleIter it a i) where
 mem:=by simp
 obj:=λi h st b g=>by
  have e:b=it:=by simpa using g
  subst e;obtain ⟨o,e,c,d⟩:=st;exact ⟨o,e,λv z=>by rw [d] at z;cases z⟩
 keep:=λi h h' st k=>st.at λo e=>k it (by simp) o e
 item:=by
  intro X r hw C hc i pins s G H E I m st A;subst r hw C;obtain ⟨xs,x,l,t⟩:=A;obtain ⟨f,D,p,hz⟩:=I.tuple l;obtain ⟨u,M,O⟩:=D.get t;obtain ⟨F,q,Q,n,y,B⟩:=m it (by simp);refine wpAny_pyNext_tuple_item st (show s.heap.IsTuple a f.toArray from p) (x:=u) (by simpa using M) λh' j N => ?_;have R:Inv X pins G H { s with heap:=h' }:=I.turned (t':=s.toks) (λb o g e=>(N.2 b g).trans e) F q n y B;obtain ⟨o,e,c,d⟩:=id j;exact ⟨u,rfl,go_of (s:={ s with heap:=h' }) e c d (by decide) ⟨x,H,R,O,⟨rfl,λys S=>by rw [I.tuple_inj S l];exact t⟩,j,λb g=>(m b g).1⟩⟩
 done:=by
  intro X r hw C hc i pins s G H E I m st A;subst r hw C;obtain ⟨xs,l,t⟩:=A;obtain ⟨f,D,p,hz⟩:=I.tuple l;obtain ⟨F,q,Q,n,y,B⟩:=m it (by simp);have U:=D.length;exact wpAny_pyNext_tuple_end (I.ok.hd hc) st (show s.heap.IsTuple a f.toArray from p) (by simp;omega) λh' L=>⟨rfl,I.turned (t':=s.toks) (λb o g e=>L b o g e) F q n y B⟩
 self:=λ_ _ _ _ _ st h=>wpAny_pyIter_tupleiter st h
theorem ziC {P:yas} {w:yaS} {K:PySem.W.Frag} {A:Expr} (it:Addr) (lo:Int) (n:Nat):Turn P w K A (Itr lo n) [it] it (λi h=>IsRangeIter h it (lo+(i:Nat)*1) ((n:Int) - (i:Nat)) 1) where
 mem:=by simp
 obj:=λi h st b a=>by
  have e:b=it:=by simpa using a
  subst e;exact ⟨_,st,λv z=>by
   have C:Data.fields _=Data.cell v:=z;cases C⟩
 keep:=λi h h' st k=>k it (by simp) _ st
 item:=by
  intro X j hw q hc i pins s y H E I d st m;subst j hw q;obtain ⟨r,g,F,f,l,p⟩:=d it (by simp);have W:=Walks.range (prog:=X.prog) (w:=X.w) (I.ok.hd hc) it lo 1 n;refine W.item i s _ _ m st λv h' u D c G => ?_;obtain ⟨t,rfl⟩:=D;have J:Inv X pins y H { s with heap:=h',toks:=u }:=I.turned (λb o a e=>G b o (by simpa using a) e) r g f l p;refine ⟨_,rfl,go_of (s:={ s with heap:=h',toks:=u }) (n := "range_iterator") c rfl rfl (by decide) ⟨.int (lo+i),H,J,⟨t,?_⟩,⟨rfl,rfl⟩,c,λb a=>(d b a).1⟩⟩;rw [Int.mul_one]
 done:=by
  intro X j hw q hc i pins s y H E I d st m;subst j hw q;obtain ⟨r,g,F,f,l,p⟩:=d it (by simp);exact wpAny_pyNext_range_end (I.ok.hd hc) st (by have:n<=i:=m;omega) λh' B=>⟨rfl,I.turned (t':=s.toks) (λb o a e=>B b o a e) r g f l p⟩
 self:=λ_ _ _ _ _ st h=>wpAny_pyIter_rangeiter st h
section
variable {X:Cx} {tg:Expr}
def iList (K:PySem.W.Frag) (tl:TE):TI:=λσ H R=>tl σ H λx H1=>∃ a,x = .ref a/\(∃ xs,SqL K H1 a xs)/\R (Itl K a) H1
def iTup (K:PySem.W.Frag) (tl:TE):TI:=λσ H R=>tl σ H λx H1=>∃ a,x = .ref a/\(∃ xs,SqT K H1 a xs)/\R (Itt K a) H1
theorem pi_list {l:Expr} {g:TE} (m:PE X l g):PI X tg l (iList X.K g):=by
 intro pins s u H R I h;refine thn (m pins s u H _ I h) λv c f => ?_;obtain ⟨x,n,d,j,t⟩:=f;obtain ⟨a,e,⟨xs,i⟩,q⟩:=t;subst e;cases j;obtain ⟨k,y,p,hz⟩:=d.list i;refine ydF p.isList ?_;refine ⟨c.heap.objs.size,[c.heap.objs.size],_,_,n,rfl,d.kept (t':=c.toks) λb o e=>yad _ e,turn_list a _,⟨_,yan _ rfl,rfl,rfl⟩,λb r => ?_,q⟩;have e:b=c.heap.objs.size:=by simpa using r
 subst e;exact d.fpOk (yaj _) (d.hok.fresh (yaj _))
theorem pi_tup {l:Expr} {i:TE} (m:PE X l i):PI X tg l (iTup X.K i):=by
 intro pins s u H R I h;refine thn (m pins s u H _ I h) λv c g => ?_;obtain ⟨x,n,d,k,t⟩:=g;obtain ⟨a,e,⟨xs,j⟩,q⟩:=t;subst e;cases k;obtain ⟨f,y,p,hz⟩:=d.tuple j;refine yfo (show c.heap.IsTuple a f.toArray from p) ?_;refine ⟨c.heap.objs.size,[c.heap.objs.size],_,_,n,rfl,d.kept (t':=c.toks) λb o e=>yad _ e,zih a _,⟨_,yan _ rfl,rfl,rfl⟩,λb r => ?_,q⟩;have e:b=c.heap.objs.size:=by simpa using r
 subst e;exact d.fpOk (yaj _) (d.hok.fresh (yaj _))
theorem zhM {pins:List (Addr×Obj)} {a:St} {H:Hp} {s:yag} {R:It->Hp->Prop} {E:yae->yag->Prop} {lo hi:Int} {t u v:Tok} {c:Nat} (I:Inv X pins a H s) (h1 : -(2 ^ 62)<=lo) (h2:lo < 2 ^ 62) (g : -(2 ^ 62)<=hi) (f:hi < 2 ^ 62)
  (q:R (Itr lo (hi - lo).toNat) H):wpAny (model X.prog X.w) X.A (pyIter (.ref s.heap.objs.size)) (PIE X pins a tg R) E { s with heap:=s.heap.push { cls := .type "range",data := .fields #[.int lo t,.int hi u,.int 1 v] },toks:=c }:=by
 refine wpAny_pyIter_range (IsRange.new ..) (small_one h1 h2 g f) ?_;have d:Inv X pins a H { s with heap:=s.heap.push { cls := .type "range",data := .fields #[.int lo t,.int hi u,.int 1 v] },toks:=c }:=I.kept λb o e=>yad _ e;refine ⟨(s.heap.push { cls := .type "range",data := .fields #[.int lo t,.int hi u,.int 1 v] }).objs.size,[(s.heap.push { cls := .type "range",data := .fields #[.int lo t,.int hi u,.int 1 v] }).objs.size],_,_,H,rfl,
  d.kept (t':=c) λb o e=>yad _ e,ziC _ lo (hi - lo).toNat,?_,λb h => ?_,q⟩
 ·have e1:lo+((0:Nat):Int)*1=lo:=by simp
  have e2:(((hi - lo).toNat:Nat):Int) - ((0:Nat):Int)=Builtin.Range.rangeSize lo hi 1:=by rw [rangeSize_one];split <;> omega
  show IsRangeIter _ _ (lo+((0:Nat):Int)*1) ((((hi - lo).toNat:Nat):Int) - ((0:Nat):Int)) 1;rw [e1,e2];exact yan _ rfl
 ·have e:b=(s.heap.push { cls := .type "range",data := .fields #[.int lo t,.int hi u,.int 1 v] }).objs.size:=by simpa using h
  subst e;exact d.fpOk (yaj _) (d.hok.fresh (yaj _))
def iRng1 (ta:TA):TI:=λσ H R=>ta σ H λvs H1=>∃ j:Int,vs = [.int j] /\ -(2 ^ 62)<=j/\j < 2 ^ 62/\R (Itr 0 j.toNat) H1
def iRng2 (ta:TA):TI:=λσ H R=>ta σ H λvs H1=>∃ i j:Int,vs = [.int i,.int j]/\(-(2 ^ 62)<=i/\i < 2 ^ 62 /\ -(2 ^ 62)<=j/\j < 2 ^ 62)/\R (Itr i (j - i).toNat) H1
theorem zbd {a:Expr} {d:TA} {p pos:Pos} (l:Gl X "range") (i:X.mg "range" = none) (m:PA X [a] d) (hs:yaZ [a] X.env = [(false,eval a X.env)]:=by rfl):PI X tg (.Call (.Name "range" p) [a] [] pos) (iRng1 d):=by
 intro pins s k H R I h;refine Call_ (zdh I l i boot_range (ybp (thn (m pos pins s k H _ I h) λus u c => ?_) hs rfl));obtain ⟨vs,v,o,g,b⟩:=c;obtain ⟨j,e,b,n,q⟩:=b;subst e;cases g with
 | cons r f =>
  cases f;obtain ⟨t,rfl⟩:=r;exact call_range_1 (zhM o (by omega) (by omega) b n (by simpa using q))
theorem pi_range2 {a b:Expr} {k:TA} {p pos:Pos} (y:Gl X "range") (o:X.mg "range" = none) (z:PA X [a,b] k) (hs:yaZ [a,b] X.env = [(false,eval a X.env),(false,eval b X.env)]:=by rfl) (c:yaZ [b] X.env = [(false,eval b X.env)]:=by rfl) :
  PI X tg (.Call (.Name "range" p) [a,b] [] pos) (iRng2 k):=by
 intro pins s u H R I h;refine Call_ (zdh I y o boot_range (ybp (thn (z pos pins s u H _ I h) λus C g => ?_) (by rw [hs,c]) (by rw [c];rfl)));obtain ⟨vs,D,B,n,f⟩:=g;obtain ⟨i,j,e,⟨f,A,v,m⟩,q⟩:=f;subst e;cases n with
 | cons r d =>
  cases d with
  | cons l d =>
   cases d;obtain ⟨t,rfl⟩:=r;obtain ⟨t',rfl⟩:=l;exact call_range_2 (zhM B f A v m q)
def tFor (wi:TI) (g:TG) (tb:TS):TS:=λD σ H=>wi σ H λJ H1=>∃ W:Nat->Nat->St->Hp->Prop,(∃ m,W 0 m σ H1)/\∀ i m σ H,W i m σ H ->
 (J.stop i H/\D.nx σ H)\/(J.go i H/\∃ N:St->Hp->Prop,(∀ σ' H',N σ' H'->∃ m',m' < m/\W (i+1) m' σ' H')/\∀ x H',J.yld i H x H'->g x σ H' λσ2 H2=>tb { D with nx:=N,ct:=N,bk:=D.nx } σ2 H2)
def zgf (fp:List Addr) (h:Heap):List (Addr×Obj):=fp.filterMap λb=>(h.get? b).map λo=>(b,o)
theorem zcM {a:List Addr} {h:Heap} {b:Addr} {o:Obj} (c:b∈a) (e:h.get? b=some o):(b,o)∈zgf a h:=yco.mpr ⟨b,c,by rw [e];rfl⟩
theorem of_pinsAt {a:List Addr} {h:Heap} {p:Addr×Obj} (c:p∈zgf a h):p.1∈a/\h.get? p.1=some p.2:=by
 obtain ⟨b,f,e⟩:=yco.mp c;cases q:h.get? b with
 | none=>rw [q] at e;cases e
 | some o =>
  rw [q] at e;have d:(b,o)=p:=yaz e;subst d;exact ⟨f,q⟩
theorem Inv.pinned {pins:List (Addr×Obj)} {c:St} {H:Hp} {s:yag} {a:List Addr} (I:Inv X pins c H s) (j:∀ b∈a,FpOk X pins H b) (i:∀ b∈a,∃ o,s.heap.get? b=some o/\∀ v,o.data ≠ .cell v):Inv X (pins++zgf a s.heap) c H s :=
 I.pins_of λp k=>(yau.mp k).elim (λz=>I.pin p (yaN _ z)) λz=>by
  obtain ⟨g,e⟩:=of_pinsAt z;obtain ⟨m,l,h,_⟩:=j p.1 g;obtain ⟨o,f,d⟩:=i p.1 g;rw [e] at f;cases f;exact ⟨e,m,l,h,d⟩
theorem Inv.unpinned {pins pl:List (Addr×Obj)} {a:St} {H:Hp} {s:yag} (I:Inv X (pins++pl) a H s):Inv X pins a H s:=I.pins_of λp b=>I.pin p (yaN _ (ybe _ b))
theorem zaV {k:Expr} {z:List Stmt} {wi:TI} {g:TG} {tb:TS} {pos:Pos} (O:PassesOwn (model X.prog X.w) X.A X.env X.xe) (hc:X.calm=true) (hi:PI X tg k wi) (hg:PG X tg g) (y:PSs X z tb)
  (hs:∀ x,yey k X.env x=pure x:=by intro _;rfl):PS X (.For tg k z [] pos) (tFor wi g tb):=by
 intro pins s σ H D I h;refine wpAny_For (thn (hi pins s σ H _ I h) λv s1 h1=>thn h1 λay s2 h2 => ?_) hs;obtain ⟨it,L,tn,J,H2,e,I2,T,S,f2,W,⟨m0,w0⟩,turn⟩:=h2;subst e;have l:∀ {H':Hp},(∀ b∈L,H' b=none)->∀ b∈L,FpOk X pins H' b:=λhn b y=>⟨hn b y,(f2 b y).2⟩;refine codeAny_forLoop_any (λn s'=>∃ i j H',Inv X pins j H' s'/\tn i s'.heap/\(∀ b∈L,H' b=none)/\W i n j H') ?_ m0 ⟨0,σ,H2,I2,S,λb y=>(f2 b y).1,w0⟩;rintro n s3 ⟨i,t,Q,I3,M,E,w3⟩;rcases turn i n t Q w3 with ⟨G,qn⟩ | ⟨go,N,hN,step⟩
 ·refine yef O (thn (T.done X rfl rfl rfl hc i pins s3 t Q X.xe I3 (l E) M G) λr s4 c => ?_);obtain ⟨Z,I4⟩:=c;subst Z;exact wpAny_execs_nil ⟨t,Q,I4,qn⟩
 ·refine yef O (thn (T.item X rfl rfl rfl hc i pins s3 t Q X.xe I3 (l E) M go) λr s4 c => ?_);obtain ⟨u,Z,h4⟩:=c;subst Z;refine yef O (thn h4 λ_ s5 c => ?_);obtain ⟨x,H5,I5,r5,y5,C,Y⟩:=c;have R:=I5.pinned (l Y) (T.obj _ _ C);refine yef O (thn (hg _ s5 t H5 x u _ R r5 (step x H5 y5)) λ_ s6 c => ?_);obtain ⟨U,H6,I6,q6⟩:=c;refine yef O (thn (y _ s6 U H6 _ I6 q6) λf V B => ?_);have again:∀ {a:St} {q:Hp},Inv X (pins++zgf L s5.heap) a q V->N a q->∃ m,m < n/\∃ i j H',Inv X pins j H' V/\tn i V.heap/\(∀ b∈L,H' b=none)/\W i m j H':=λ{a q} p F=>by
   obtain ⟨m',hm,w7⟩:=hN a q F;refine ⟨m',hm,i+1,a,q,p.unpinned,T.keep _ _ _ C λb y o e=>(p.pin (b,o) (yaN _ (yaN _ (zcM y e)))).1,λb y => ?_,w7⟩;obtain ⟨o,e,d⟩:=T.obj _ _ C b y;exact (p.pin (b,o) (yaN _ (yaN _ (zcM y e)))).2.1
  cases f with
  | next=>obtain ⟨a,q,p,F⟩:=B;exact again p F
  | cont=>obtain ⟨a,q,p,F⟩:=B;exact again p F
  | brk=>obtain ⟨a,q,p,B⟩:=B;exact ⟨a,q,p.unpinned,B⟩
  | ret v=>obtain ⟨x7,a,q,p,r7,B⟩:=B;exact ⟨x7,a,q,p.unpinned,r7,B⟩
end
theorem za0 {K:PySem.W.Frag} {a:Addr} {xs:List V} {g:TG} {j:TS} {D:Ends} {b:St} {H:Hp} (Pv:Nat->St->Hp->Prop) (n:Pv 0 b H) (o:∀ i b H,i<=xs.length->Pv i b H->SqL K H a xs)
  (hs:∀ i x b H,xs[i]? = some x->Pv i b H->g x b H λc h=>j { D with nx:=Pv (i+1),ct:=Pv (i+1),bk:=D.nx } c h) (hd:∀ b H,Pv xs.length b H->D.nx b H) :
  ∃ W:Nat->Nat->St->Hp->Prop,(∃ m,W 0 m b H)/\∀ i m b H,W i m b H ->
   ((Itl K a).stop i H/\D.nx b H)\/((Itl K a).go i H/\∃ N:St->Hp->Prop,(∀ d H',N d H'->∃ k,k < m/\W (i+1) k d H')/\∀ x H',(Itl K a).yld i H x H'->g x b H' λc h=>j { D with nx:=N,ct:=N,bk:=D.nx } c h):=by
 refine ⟨λi m b H=>m=xs.length - i/\i<=xs.length/\Pv i b H,⟨xs.length,by simp,yaW _,n⟩,?_⟩;rintro i m b H ⟨rfl,hi,p⟩;have q:=o i b H hi p;by_cases f:i < xs.length
 ·refine .inr ⟨⟨xs,xs[i],q,by simp [f]⟩,Pv (i+1),λd H' l=>⟨xs.length - (i+1),by omega,rfl,f,l⟩,λx H' y => ?_⟩;obtain ⟨e,y⟩:=y;subst e;exact hs i x b _ (y xs q) p
 ·have e:i=xs.length:=by omega
  subst e;exact .inl ⟨⟨xs,q,yaj _⟩,hd b H p⟩
theorem for_tup {K:PySem.W.Frag} {a:Addr} {xs:List V} {g:TG} {j:TS} {D:Ends} {b:St} {H:Hp} (Pv:Nat->St->Hp->Prop) (n:Pv 0 b H) (o:∀ i b H,i<=xs.length->Pv i b H->SqT K H a xs)
  (hs:∀ i x b H,xs[i]? = some x->Pv i b H->g x b H λc h=>j { D with nx:=Pv (i+1),ct:=Pv (i+1),bk:=D.nx } c h) (hd:∀ b H,Pv xs.length b H->D.nx b H) :
  ∃ W:Nat->Nat->St->Hp->Prop,(∃ m,W 0 m b H)/\∀ i m b H,W i m b H ->
   ((Itt K a).stop i H/\D.nx b H)\/((Itt K a).go i H/\∃ N:St->Hp->Prop,(∀ d H',N d H'->∃ k,k < m/\W (i+1) k d H')/\∀ x H',(Itt K a).yld i H x H'->g x b H' λc h=>j { D with nx:=N,ct:=N,bk:=D.nx } c h):=by
 refine ⟨λi m b H=>m=xs.length - i/\i<=xs.length/\Pv i b H,⟨xs.length,by simp,yaW _,n⟩,?_⟩;rintro i m b H ⟨rfl,hi,p⟩;have q:=o i b H hi p;by_cases f:i < xs.length
 ·refine .inr ⟨⟨xs,xs[i],q,by simp [f]⟩,Pv (i+1),λd H' l=>⟨xs.length - (i+1),by omega,rfl,f,l⟩,λx H' y => ?_⟩;obtain ⟨e,y⟩:=y;subst e;exact hs i x b _ (y xs q) p
 ·have e:i=xs.length:=by omega
  subst e;exact .inl ⟨⟨xs,q,yaj _⟩,hd b H p⟩
theorem zbs {lo:Int} {n:Nat} {g:TG} {h:TS} {D:Ends} {a:St} {H:Hp} (Pv:Nat->St->Hp->Prop) (l:Pv 0 a H)
  (hs:∀ i a H,i < n->Pv i a H->g (.int (lo+i)) a H λb f=>h { D with nx:=Pv (i+1),ct:=Pv (i+1),bk:=D.nx } b f) (hd:∀ a H,Pv n a H->D.nx a H) :
  ∃ W:Nat->Nat->St->Hp->Prop,(∃ m,W 0 m a H)/\∀ i m a H,W i m a H ->
   ((Itr lo n).stop i H/\D.nx a H)\/((Itr lo n).go i H/\∃ N:St->Hp->Prop,(∀ c H',N c H'->∃ j,j < m/\W (i+1) j c H')/\∀ x H',(Itr lo n).yld i H x H'->g x a H' λb f=>h { D with nx:=N,ct:=N,bk:=D.nx } b f):=by
 refine ⟨λi m a H=>m=n - i/\i<=n/\Pv i a H,⟨n,by simp,yaW _,l⟩,?_⟩;rintro i m a H ⟨rfl,hi,p⟩;by_cases d:i < n
 ·refine .inr ⟨d,Pv (i+1),λc H' k=>⟨n - (i+1),by omega,rfl,d,k⟩,λx H' y => ?_⟩;obtain ⟨e,y⟩:=y;subst e y;exact hs i a _ d p
 ·have e:i=n:=by omega
  subst e;exact .inl ⟨yaj _,hd a H p⟩
abbrev R2:=V->V->Hp->VK->Prop
def OpR (X:Cx) (f:yae->yae->Sem yae) (r:R2):Prop :=
 ∀ (pins:List (Addr×Obj)) (s:yag) (σ:St) (H:Hp) (x y:V) (v u:yae) (Q:VK),Inv X pins σ H s->RelV x v->RelV y u->r x y H Q ->
  wpAny (model X.prog X.w) X.A (f v u) (EP X pins σ Q) X.xe s
def UnR (X:Cx) (f:yae->Sem yae) (r:V->Hp->VK->Prop):Prop :=
 ∀ (pins:List (Addr×Obj)) (s:yag) (σ:St) (H:Hp) (x:V) (v:yae) (Q:VK),Inv X pins σ H s->RelV x v->r x H Q ->
  wpAny (model X.prog X.w) X.A (f v) (EP X pins σ Q) X.xe s
def CallR (X:Cx) (f:yae) (r:List V->Hp->VK->Prop):Prop :=
 ∀ (pins:List (Addr×Obj)) (s:yag) (σ:St) (H:Hp) (xs:List V) (us:List yae) (Q:VK),Inv X pins σ H s->Vals xs us->r xs H Q ->
  wpAny (model X.prog X.w) X.A (call f us) (EP X pins σ Q) X.xe s
def tOp (r:R2) (ta tb:TE):TE:=λσ H Q=>ta σ H λx H1=>tb σ H1 λy H2=>r x y H2 Q
def tUn (r:V->Hp->VK->Prop) (ta:TE):TE:=λσ H Q=>ta σ H λx H1=>r x H1 Q
def rI (C:Int->Int->Prop) (g:Int->Int->V):R2:=λx y H Q=>∃ i j,x = .int i/\y = .int j/\C i j/\Q (g i j) H
def rI0 (g:Int->Int->V):R2:=λx y H Q=>∃ i j,x = .int i/\y = .int j/\Q (g i j) H
def rU (g:Int->V):V->Hp->VK->Prop:=λx H Q=>∃ i,x = .int i/\Q (g i) H
section
variable {X:Cx} {a b c:Expr} {ta tb tc:TE} {pos:Pos}
theorem binT (t:PE X a ta) (q:PE X b tb) {pins:List (Addr×Obj)} {s:yag} {e:St} {H:Hp} {R:V->V->Hp->Prop} (I:Inv X pins e H s)
  (h:ta e H λx k=>tb e k λy d=>R x y d) {Q:yae->yag->Prop} {f:yae->yae->Sem yae}
  (o:∀ v u j x y d,Inv X pins e d j->RelV x v->RelV y u->R x y d->wpAny (model X.prog X.w) X.A (f v u) Q X.xe j) :
  wpAny (model X.prog X.w) X.A (eval a X.env) (λv g=>wpAny (model X.prog X.w) X.A (eval b X.env) (λu i=>wpAny (model X.prog X.w) X.A (f v u) Q X.xe i) X.xe g) X.xe s:=by
 refine thn (t pins s e H _ I h) λv p c => ?_;obtain ⟨x,k,B,n,r⟩:=c;refine thn (q pins p e k _ B r) λu j c => ?_;obtain ⟨y,d,m,l,z⟩:=c;exact o v u j x y d m n l z
theorem pe_op {op:Operator} {r:R2} (g:OpR X (yd0 op) r) (k:PE X a ta) (l:PE X b tb):PE X (.BinOp a op b pos) (tOp r ta tb):=by
 intro pins s e H Q I h;exact wpAny_BinOp (binT k l I h λv u f x y j i d c q=>g pins f e j x y v u Q i d c q)
theorem pe_un {op:UnaryOp} {r:V->Hp->VK->Prop} (g:UnR X (unaryOp op) r) (d:PE X a ta):PE X (.UnaryOp op a pos) (tUn r ta):=by
 intro pins s b H Q I h;exact UnaryOp_ (thn (d pins s b H _ I h) (by rintro v e ⟨x,f,j,i,c⟩;exact g pins e b f x v Q j i c))
theorem opI {f:yae->yae->Sem yae} {C:Int->Int->Prop} {g:Int->Int->Int}
  (rule:∀ (i j:Int) (t u:Tok) (s:yag) (Q:yae->yag->Prop) (E:yae->yag->Prop),C i j->Q (.int (g i j) s.toks) { s with toks:=s.toks+1 }->wpAny (model X.prog X.w) X.A (f (.int i t) (.int j u)) Q E s) :
  OpR X f (rI C λi j => .int (g i j)):=by
 intro pins s c H x y v u Q I b a h;obtain ⟨i,j,rfl,rfl,hc,q⟩:=h;obtain ⟨t,rfl⟩:=b;obtain ⟨t',rfl⟩:=a;exact rule i j t t' s _ _ hc ⟨.int (g i j),H,I.tok _,⟨_,rfl⟩,q⟩
theorem opI0 {f:yae->yae->Sem yae} {g:Int->Int->Int}
  (rule:∀ (i j:Int) (t u:Tok) (s:yag) (Q:yae->yag->Prop) (E:yae->yag->Prop),Q (.int (g i j) s.toks) { s with toks:=s.toks+1 }->wpAny (model X.prog X.w) X.A (f (.int i t) (.int j u)) Q E s) :
  OpR X f (rI0 λi j => .int (g i j)):=by
 intro pins s c H x y v u Q I b a h;obtain ⟨i,j,rfl,rfl,q⟩:=h;obtain ⟨t,rfl⟩:=b;obtain ⟨t',rfl⟩:=a;exact rule i j t t' s _ _ ⟨.int (g i j),H,I.tok _,⟨_,rfl⟩,q⟩
theorem opB0 {f:yae->yae->Sem yae} {g:Int->Int->Bool}
  (rule:∀ (i j:Int) (t u:Tok) (s:yag) (Q:yae->yag->Prop) (E:yae->yag->Prop),Q (.bool (g i j)) s->wpAny (model X.prog X.w) X.A (f (.int i t) (.int j u)) Q E s) :
  OpR X f (rI0 λi j => .bl (g i j)):=by
 intro pins s c H x y v u Q I b a h;obtain ⟨i,j,rfl,rfl,q⟩:=h;obtain ⟨t,rfl⟩:=b;obtain ⟨t',rfl⟩:=a;exact rule i j t t' s _ _ ⟨.bl (g i j),H,I,rfl,q⟩
def CPow (i j:Int):Prop:=0<=j/\j<=1000000/\i.natAbs < 2 ^ 64
def CMul (i j:Int):Prop:=(-(2 ^ 64) < i/\i < 2 ^ 64)\/(-(2 ^ 64) < j/\j < 2 ^ 64)
theorem CMul.ok {i j:Int} (h:CMul i j):IntMulOk i j:=by
 rcases h with ⟨h1,h2⟩ | ⟨h1,h2⟩
 ·exact .of_left (intBits_le_64 h1 h2)
 ·exact .of_right (intBits_le_64 h1 h2)
theorem zbr:OpR X (yd0 .Add) (rI0 λi j => .int (i+j)):=opI0 λ_ _ _ _ _ _ _ q=>add_int q
theorem zgy:OpR X (yd0 .Sub) (rI0 λi j => .int (i - j)):=opI0 λ_ _ _ _ _ _ _ q=>sub_int q
theorem zbZ:OpR X (yd0 .Mult) (rI CMul λi j => .int (i*j)):=opI λ_ _ _ _ _ _ _ hc q=>mul_int q hc.ok
theorem zaL:OpR X (yd0 .Mod) (rI (λ_ j=>0 < j) λi j => .int (i % j)):=opI λi j _ _ _ _ _ hc q=>by
 have h1:(0:Int) < j:=hc;exact mod_int' (by omega) (by rw [Int.fmod_eq_emod_of_nonneg i (by omega)];exact q)
theorem zfO:OpR X (yd0 .Pow) (rI CPow λi j => .int (i ^ j.toNat)):=opI λ_ _ _ _ _ _ _ hc q=>pow_int_small hc.1 hc.2.1 hc.2.2 q
theorem unI {f:yae->Sem yae} {g:Int->Int}
  (rule:∀ (i:Int) (t:Tok) (s:yag) (Q:yae->yag->Prop) (E:yae->yag->Prop),Q (.int (g i) s.toks) { s with toks:=s.toks+1 }->wpAny (model X.prog X.w) X.A (f (.int i t)) Q E s) :
  UnR X f (rU λi => .int (g i)):=by
 intro pins s b H x v Q I a h;obtain ⟨i,rfl,q⟩:=h;obtain ⟨t,rfl⟩:=a;exact rule i t s _ _ ⟨.int (g i),H,I.tok _,⟨_,rfl⟩,q⟩
theorem zcS:UnR X (unaryOp .USub) (rU λi => .int (-i)):=unI λ_ _ _ _ _ q=>neg_int q
end
noncomputable def scal:V->V->Bool
 | .non,.non=>true | .non,.int _=>true | .int _,.non=>true | .non,.bl _=>true | .bl _,.non=>true | .non,.str _=>true | .str _,.non=>true
 | .int _,.int _=>true | .bl _,.bl _=>true | .str _,.str _=>true | .byt _,.byt _=>true
 | .int _,.str _=>true | .str _,.int _=>true | .bl _,.str _=>true | .str _,.bl _=>true
 | _,_=>false
def rEq:R2:=λx y H Q=>scal x y=true/\Q (.bl (decide (x=y))) H
def rNe:R2:=λx y H Q=>scal x y=true/\Q (.bl (!decide (x=y))) H
theorem dec_int {i j:Int}:decide (V.int i=V.int j)=(i == j):=by
 rw [ycg];simp
theorem dec_bl {i j:Bool}:decide (V.bl i=V.bl j)=(i == j):=by
 rw [ycg];simp
theorem dec_str {i j:Str}:decide (V.str i=V.str j)=(i == j):=by
 rw [ycg];simp
theorem dec_byt {i j:Array UInt8}:decide (V.byt i=V.byt j)=(i.toList == j.toList):=by
 rw [ycg];cases i;cases j;simp
section
variable {X:Cx} {a b c:Expr} {ta tb tc:TE} {pos:Pos}
theorem zaK {pins:List (Addr×Obj)} {a:St} {H:Hp} {s:yag} {Q:VK} {k b:Bool} (I:Inv X pins a H s) (q:Q (.bl k) H) (e:k=b):EP X pins a Q (.bool b) s:=by
 subst e;exact ⟨.bl k,H,I,rfl,q⟩
theorem op_eq:OpR X (yba .Eq) rEq:=by
 intro pins s c H x y v u Q I b a h;obtain ⟨hs,q⟩:=h;cases x with
 | non =>
  cases b;cases y with
  | non=>cases a;exact PySem.EqNone.eq_none_none (zaK I q (by simp))
  | bl j=>cases a;exact PySem.EqNone.eq_none_bool (zaK I q (by simp))
  | int j=>obtain ⟨t',rfl⟩:=a;exact PySem.EqNone.eq_none_int (zaK I q (by simp))
  | str j=>obtain ⟨t',rfl⟩:=a;exact PySem.EqNone.eq_none_str (zaK I q (by simp))
  | _=>exact absurd (show false=true from hs) yaB
 | bl i =>
  cases b;cases y with
  | non=>cases a;exact PySem.EqNone.eq_bool_none (zaK I q (by simp))
  | bl j=>cases a;exact eq_bool (zaK I q dec_bl)
  | str j=>obtain ⟨t',rfl⟩:=a;exact PySem.EqMixed.eq_bool_str (zaK I q (by simp))
  | _=>exact absurd (show false=true from hs) yaB
 | int i =>
  obtain ⟨t,rfl⟩:=b;cases y with
  | non=>cases a;exact PySem.EqNone.eq_int_none (zaK I q (by simp))
  | int j=>obtain ⟨t',rfl⟩:=a;exact eq_int (zaK I q dec_int)
  | str j=>obtain ⟨t',rfl⟩:=a;exact PySem.EqMixed.eq_int_str (zaK I q (by simp))
  | _=>exact absurd (show false=true from hs) yaB
 | str i =>
  obtain ⟨t,rfl⟩:=b;cases y with
  | non=>cases a;exact PySem.EqNone.eq_str_none (zaK I q (by simp))
  | bl j=>cases a;exact PySem.EqMixed.eq_str_bool (zaK I q (by simp))
  | int j=>obtain ⟨t',rfl⟩:=a;exact PySem.EqMixed.eq_str_int (zaK I q (by simp))
  | str j=>obtain ⟨t',rfl⟩:=a;exact eq_str (zaK I q dec_str)
  | _=>exact absurd (show false=true from hs) yaB
 | byt i =>
  obtain ⟨t,rfl⟩:=b;cases y with
  | byt j=>obtain ⟨t',rfl⟩:=a;exact PySem.W.eq_bytes (zaK I q dec_byt)
  | _=>exact absurd (show false=true from hs) yaB
 | _=>cases y <;> exact absurd (show false=true from hs) yaB
theorem op_ne:OpR X (yba .NotEq) rNe:=by
 intro pins s c H x y v u Q I b a h;obtain ⟨hs,q⟩:=h;cases x with
 | non =>
  cases b;cases y with
  | non=>cases a;exact PySem.EqNone.ne_none_none (zaK I q (by simp))
  | bl j=>cases a;exact PySem.EqNone.ne_none_bool (zaK I q (by simp))
  | int j=>obtain ⟨t',rfl⟩:=a;exact PySem.EqNone.ne_none_int (zaK I q (by simp))
  | str j=>obtain ⟨t',rfl⟩:=a;exact PySem.EqNone.ne_none_str (zaK I q (by simp))
  | _=>exact absurd (show false=true from hs) yaB
 | bl i =>
  cases b;cases y with
  | non=>cases a;exact PySem.EqNone.ne_bool_none (zaK I q (by simp))
  | bl j=>cases a;exact ne_bool (zaK I q (congrArg not dec_bl))
  | str j=>obtain ⟨t',rfl⟩:=a;exact PySem.EqMixed.ne_bool_str (zaK I q (by simp))
  | _=>exact absurd (show false=true from hs) yaB
 | int i =>
  obtain ⟨t,rfl⟩:=b;cases y with
  | non=>cases a;exact PySem.EqNone.ne_int_none (zaK I q (by simp))
  | int j=>obtain ⟨t',rfl⟩:=a;exact ne_int (zaK I q (congrArg not dec_int))
  | str j=>obtain ⟨t',rfl⟩:=a;exact PySem.EqMixed.ne_int_str (zaK I q (by simp))
  | _=>exact absurd (show false=true from hs) yaB
 | str i =>
  obtain ⟨t,rfl⟩:=b;cases y with
  | non=>cases a;exact PySem.EqNone.ne_str_none (zaK I q (by simp))
  | bl j=>cases a;exact PySem.EqMixed.ne_str_bool (zaK I q (by simp))
  | int j=>obtain ⟨t',rfl⟩:=a;exact PySem.EqMixed.ne_str_int (zaK I q (by simp))
  | str j=>obtain ⟨t',rfl⟩:=a;exact ne_str (zaK I q (congrArg not dec_str))
  | _=>exact absurd (show false=true from hs) yaB
 | byt i =>
  obtain ⟨t,rfl⟩:=b;cases y with
  | byt j=>obtain ⟨t',rfl⟩:=a;exact PySem.W.ne_bytes (zaK I q (congrArg not dec_byt))
  | _=>exact absurd (show false=true from hs) yaB
 | _=>cases y <;> exact absurd (show false=true from hs) yaB
theorem op_lt:OpR X (yba .Lt) (rI0 λi j => .bl (decide (i < j))):=opB0 λ_ _ _ _ _ _ _ q=>lt_int q
theorem op_le:OpR X (yba .LtE) (rI0 λi j => .bl (decide (i<=j))):=opB0 λ_ _ _ _ _ _ _ q=>le_int q
theorem op_gt:OpR X (yba .Gt) (rI0 λi j => .bl (decide (j < i))):=opB0 λ_ _ _ _ _ _ _ q=>gt_int q
theorem op_ge:OpR X (yba .GtE) (rI0 λi j => .bl (decide (j<=i))):=opB0 λ_ _ _ _ _ _ _ q=>ge_int q
theorem op_in_str:OpR X (yba .In) (λx y H Q=>∃ i j,x = .str i/\y = .str j/\Q (.bl (!(Builtin.Str.occurrences j i 0 j.length 1).isEmpty)) H):=by
 intro pins s c H x y v u Q I b a h;obtain ⟨i,j,rfl,rfl,q⟩:=h;obtain ⟨t,rfl⟩:=b;obtain ⟨t',rfl⟩:=a;exact in_str (zaK I q rfl)
theorem OpR.or {f:yae->yae->Sem yae} {r b:R2} (h:OpR X f r) (h':OpR X f b):OpR X f (λx y H Q=>r x y H Q\/b x y H Q):=by
 intro pins s d H x y v u Q I c a q;rcases q with q | q
 ·exact h pins s d H x y v u Q I c a q
 ·exact h' pins s d H x y v u Q I c a q
theorem zaD (b:Expr) {op:CmpOp} (h:op ≠ .In:=by decide) (h2:op ≠ .NotIn:=by decide):yc9 op b=false:=by
 have e1:(op == CmpOp.In)=false:=by cases op <;> first | rfl | exact absurd rfl h
 have e2:(op == CmpOp.NotIn)=false:=by cases op <;> first | rfl | exact absurd rfl h2
 cases b <;> simp [yc9,e1,e2]
theorem zby {op:CmpOp} {r:R2} (g:OpR X (yba op) r) (k:PE X a ta) (m:PE X b tb) (l:yc9 op b=false):PE X (.Compare a [op] [b] pos) (tOp r ta tb):=by
 intro pins s e H Q I h;exact wpAny_Compare1 (binT k m I h λv u f x y j i d c q=>g pins f e j x y v u Q i d c q) l
def tTest (t:TE):TT:=λσ H Q=>t σ H λx H'=>∃ k,x = .bl k/\Q k H'
theorem zaz {op:CmpOp} {r:R2} (i:OpR X (yba op) r) (D:PE X a ta) (t:PE X b tb) (o:yc9 op b=false):PT X (.Compare a [op] [b] pos) (tTest (tOp r ta tb)):=by
 intro pins s d H Q I h;refine wpAny_isTrue_Compare1 (thn (D pins s d H _ I h) λv p ⟨x,q,G,l,A⟩=>thn (t pins p d q _ G A) λu B ⟨y,m,j,f,F⟩ =>
  thn (i pins B d m x y v u _ j l f F) λc J ⟨z,g,n,E,k,e,C⟩ => ?_) o
 subst e;cases E;exact ybj ⟨g,n,C⟩
def tChain (r r':R2) (ta tb tc:TE):TE:=λσ H Q=>ta σ H λx H1=>tb σ H1 λy H2=>r x y H2 λz H3=>∃ k,z = .bl k /\
 (if k=true then tc σ H3 λw' H4=>r' y w' H4 Q else Q (.bl false) H3)
theorem zh4 {op f:CmpOp} {r j:R2} (B:OpR X (yba op) r) (i:OpR X (yba f) j) (W:PE X a ta) (N:PE X b tb) (hc:PE X c tc)
  (G:lastMarks [op,f] [b,c]=false:=by with_unfolding_all rfl):PE X (.Compare a [op,f] [b,c] pos) (tChain r j ta tb tc):=by
 intro pins s g H Q I h;refine Compare_chain (thn (W pins s g H _ I h) λv L ⟨x,M,V,D,R⟩=>chain_link (thn (N pins L g M _ V R) λu U ⟨y,F,E,l,Z⟩ =>
  thn (B pins U g F x y v u _ E D l Z) λd p ⟨z,m,n,Y,k,e,o⟩ => ?_)) G
 subst e;cases Y;refine ybj ?_;cases k with
 | false=>exact ite_ff ⟨.bl false,m,n,rfl,o⟩
 | true=>exact ite_tt (chain_last (thn (hc pins p g m _ n o) (by rintro q A ⟨J,S,C,O,t⟩;exact i pins A g S y J u q Q C l O t)))
theorem pt_chain {op f:CmpOp} {r l:R2} (E:OpR X (yba op) r) (i:OpR X (yba f) l) (ha:PE X a ta) (U:PE X b tb) (hc:PE X c tc)
  (N:lastMarks [op,f] [b,c]=false:=by with_unfolding_all rfl):PT X (.Compare a [op,f] [b,c] pos) (tTest (tChain r l ta tb tc)):=by
 intro pins s g H Q I h;refine isTrue_chain (thn (ha pins s g H _ I h) λv R ⟨x,S,I1,J,W⟩=>test_link (thn (U pins R g S _ I1 W) λu s2 ⟨y,L,G,m,q2⟩ =>
  thn (E pins s2 g L x y v u _ G J m q2) λd q ⟨z,n,o,r3,k,e,p⟩ => ?_)) N
 subst e;cases r3;refine ybj ?_;cases k with
 | false =>
  obtain ⟨k',O,Z⟩:=p;cases O;exact ite_ff ⟨n,o,Z⟩
 | true =>
  refine ite_tt (test_last (thn (hc pins q g n _ o p) λt D ⟨M,Y,F,V,C⟩=>thn (i pins D g Y y M u t _ F m V C) λd' s5 j => ?_));obtain ⟨z2,B,I5,r5,k2,e2,A⟩:=j;subst e2;cases r5;exact ybj ⟨B,I5,A⟩
theorem zeE:(yaO:Nat) < 2 ^ 63:=by rw [yd3];decide
theorem zcD:OpR X (yd0 .Add) (λx y H Q=>∃ i j,x = .str i/\y = .str j/\i.length+j.length<=yaO/\Q (.str (i++j)) H):=by
 intro pins s d H x y v u Q I b a h;obtain ⟨i,j,rfl,rfl,hz,q⟩:=h;obtain ⟨t,rfl⟩:=b;obtain ⟨t',rfl⟩:=a;exact add_str (λt' c=>⟨.str (i++j),H,I.tok _,⟨_,rfl⟩,q⟩) hz
theorem vals1 {x:V} {us:List yae} (r:Vals [x] us):∃ u,us = [u]/\RelV x u:=by
 cases r with
 | cons b a=>cases a;exact ⟨_,rfl,b⟩
theorem vals2 {x y:V} {us:List yae} (r:Vals [x,y] us):∃ u a,us = [u,a]/\RelV x u/\RelV y a:=by
 cases r with
 | cons e c =>
  cases c with
  | cons d b=>cases b;exact ⟨_,_,rfl,e,d⟩
theorem zeZ:CallR X (.type "int") (λxs H Q=>(∃ i,xs = [.int i]/\Q (.int i) H)\/∃ k,xs = [.bl k]/\Q (.int (if k then 1 else 0)) H):=by
 intro pins s b H xs us Q I r h;rcases h with ⟨i,rfl,q⟩ | ⟨k,rfl,q⟩
 ·obtain ⟨u,rfl,t,rfl⟩:=vals1 r;exact call_int_int ⟨.int i,H,I,⟨_,rfl⟩,q⟩
 ·obtain ⟨u,rfl,a⟩:=vals1 r;cases a;exact call_int_bool ⟨.int (if k then 1 else 0),H,I.tok _,⟨_,rfl⟩,q⟩
end
structure ObjM (h:Heap) (x dx C:Addr) (mA:Str->Option yae):Prop where
 obj:h.get? x=some (ycz C dx)
 ns:h.Ns1 dx mA
 ne:dx≠x
theorem lookIn_ns {h:Heap} {dx:Addr} {c:Str->Option yae} (n:h.Ns1 dx c):∃ od,h.get? dx=some od/\∀ name,yfv name od=some (c name):=by
 obtain ⟨o,es,ep,f,hd,d,_,g⟩:=n;refine ⟨o,f,λname => ?_⟩;have e:=g name;unfold nsFind findBy at e;rw [<- Array.find?_toList] at e;unfold yfv;rw [hd];dsimp only;split
 ·rename_i y q;rw [q] at e;exact congrArg some e
 ·rename_i q;rw [q] at e;have a:es.toList.any (·.refKey)=false:=by
   rw [List.any_eq_false];intro y i;obtain ⟨z,t,b⟩:=d y (ydN.mp i);simp [DictEntry.refKey,b]
  have j:¬ es.toList.any (·.refKey)=true:=by rw [a];exact yaB
  rw [if_neg j];exact congrArg some e
theorem ObjM.look {h:Heap} {x dx C:Addr} {a:Str->Option yae} (I:ObjM h x dx C a):∃ od,PySem.W.InstAt h x (ycz C dx) C (some od)/\∀ name,yfv name od=some (a name) :=
 let ⟨od,ho,hl⟩:=lookIn_ns I.ns
 ⟨od,⟨I.obj,rfl,rfl,ho⟩,hl⟩
section
variable {prog:yas} {w:yaS} {A:yaM} {E:yae->yag->Prop} {s:yag} {K:PySem.W.Frag} {x dx C f:Addr} {mA:Str->Option yae} {name:Str} {v:yae}
theorem get_map {a:Bool} {Q:yae->yag->Prop} (X:K.In s.heap) (I:ObjM s.heap x dx C mA) (c:yeT K C name=true) (f:yfA K C=true)
  (d:ya5 K (.ref C) name=some none) (g:mA name=some v) (b:PySem.W.handedIn v=true) (h:Q v { s with toks:=s.toks+1 }) :
  wpAny (model prog w) A (getAttr (.ref x) name a) Q E s:=by
 obtain ⟨od,J,e⟩:=I.look;exact PySem.W.get_value X J (ye8 c).1 (PySem.W.findObj_own f d rfl (by rw [e,g])) b h
theorem get_meth {pl:Sem Bool} {Q:yae×List yae->yag->Prop} (X:K.In s.heap) (I:ObjM s.heap x dx C mA) (a:yeT K C name=true)
  (e:ya5 K (.ref C) name=some (some (.ref f))) (b:yeN K (.ref f)=true) (d:mA name=none) (h:Q (.ref f,[.ref x]) s) :
  wpAny (model prog w) A (getMethod (.ref x) name pl) Q E s:=by
 obtain ⟨od,J,c⟩:=I.look;exact PySem.W.method_fn X J (ye8 a).1 (ye8 a).2 e (beq_iff_eq.mp b) (by show (yfv name od).map (·.isSome)=some false;rw [c,d];rfl) h
theorem set_map {ns:List Str} {Q:Unit->yag->Prop} (X:K.In s.heap) (I:ObjM s.heap x dx C mA)
  (hs:ya5 K (.ref C) "__setattr__" = some (some (.builtin "object.__setattr__"))) (m:PySem.W.plainOver K C=true) (l:PySem.W.takerIn K C name=some none) (k:yfA K C=true)
  (hw:PySem.Within mA ns) (hsz:ns.length<=yaO)
  (h:∀ h',ObjM h' x dx C (λy=>if y=name then some v else mA y)->Heap.SameBut dx s.heap h'->Q () { s with heap:=h',toks:=s.toks+2 }) :
  wpAny (model prog w) A (setAttr (.ref x) name v) Q E s:=by
 obtain ⟨od,J,q⟩:=I.look;refine PySem.W.set_plain X J hs (PySem.W.osa_open (s:={ s with toks:=s.toks+1 }) (r:=none) X J m l λb => ?_);obtain ⟨cd,hc,g⟩:=PySem.W.any_some k;have n:s.heap.get? x=some ⟨.ref C,some dx,.plain,#[]⟩:=I.obj;refine yac (yah (yac (yac (wpAny_loadPart n (yac (PySem.W.Looks.here (s:={ s with toks:=s.toks+1 }) (PySem.W.looks_clsIn X hc) ?_))))));rw [g];refine yah (a:=some dx) (yac (yah (yac ?_)));refine wpAny_nsSet1 (s:={ s with toks:=s.toks+1 }) I.ns λh' c d => ?_;obtain ⟨p,j,o,f,i,e⟩:=c.count (PySem.Within.cons name v hw);refine yac (wpAny_lookBehind f (by rw [i];exact pastItsLine_dict (yaY e (by rw [ya4];omega))) ?_);exact yah (h _ ⟨(d.2 _ (ybt I.ne)).trans I.obj,c,I.ne⟩ d)
theorem make_map {R:Result->yag->Prop} {vs:List yae} {b:List (Str×yae)} (X:K.In s.heap) (c:ye9 K C=true)
  (hi:ya5 K (.ref C) "__init__" = some (some (.ref f))) (e:PySem.W.typeIn K (.ref f)=some (.type "function"))
  (h:yeg (model prog w) (A.under (.builtin "type.__call__" ⟨.ref C :: vs,b⟩)) (.call (.ref f) ⟨.ref (s.heap.objs.size+1) :: vs,b⟩) (PySem.W.InitBack (s.heap.objs.size+1) R)
   { s with heap:=(s.heap.push ybP).push (ycz C s.heap.objs.size) }) :
  yeg (model prog w) A (.call (.ref C) ⟨vs,b⟩) R s:=by
 obtain ⟨i,g,d,t,os⟩:=s;exact PySem.W.make_core (PySem.W.makes_of X c) (PySem.W.looks_findIn X hi) (λa=>PySem.W.bind_fn X a e) (.inl rfl) h
end
noncomputable def putF (f:Str) (v:V):List (Str×V)->List (Str×V)
 | [] => [(f,v)]
 | (g,x) :: r=>if g=f then (g,v) :: r else (g,x) :: putF f v r
theorem zeO (f g:Str) (v:V):∀ fs:List (Str×V),(putF f v fs).lookup g=if g=f then some v else fs.lookup g
 | []=>by
  show yez g [(f,v)]=_;by_cases h:g=f
  ·have a:(g == f)=true:=beq_iff_eq.mpr h;simp only [yez,a,if_pos h]
  ·have a:(g == f)=false:=beq_eq_false_iff_ne.mpr h;simp only [yez,a,if_neg h]
 | (k,x) :: r=>by
  have c:=zeO f g v r;rw [show putF f v ((k,x) :: r)=(if k=f then (k,v) :: r else (k,x) :: putF f v r) from rfl];by_cases b:k=f
  ·rw [if_pos b];by_cases h:g=k
   ·have a:(g == k)=true:=beq_iff_eq.mpr h;simp only [yez,a,if_pos (h.trans b)]
   ·have a:(g == k)=false:=beq_eq_false_iff_ne.mpr h;simp only [yez,a,if_neg (λe:g=f=>h (e.trans b.symm))]
  ·rw [if_neg b];by_cases h:g=k
   ·have a:(g == k)=true:=beq_iff_eq.mpr h;simp only [yez,a,if_neg (λe:g=f=>b (h.symm.trans e))]
   ·have a:(g == k)=false:=beq_eq_false_iff_ne.mpr h;simp only [yez,a];exact c
theorem zev (f:Str) (v:V):∀ fs:List (Str×V),f∈(putF f v fs).map (·.1)/\∀ g,g∈fs.map (·.1)->g∈(putF f v fs).map (·.1)
 | []=>⟨by simp [putF],λg h=>by simp at h⟩
 | (k,x) :: r=>by
  obtain ⟨i1,i2⟩:=zev f v r;rw [show putF f v ((k,x) :: r)=(if k=f then (k,v) :: r else (k,x) :: putF f v r) from rfl];by_cases a:k=f
  ·rw [if_pos a];subst a;exact ⟨by simp,λg h=>by simpa using h⟩
  ·rw [if_neg a];refine ⟨?_,λg h => ?_⟩
   ·rw [yaw];exact yal _ i1
   ·rw [yaw] at h ⊢;rcases yaJ.mp h with e | e
    ·exact yaJ.mpr (.inl e)
    ·exact yal _ (i2 g e)
theorem zeC (f:Str) (v:V):∀ fs:List (Str×V),(putF f v fs).length<=fs.length+1
 | []=>by simp [putF]
 | (k,x) :: r=>by
  have b:=zeC f v r;rw [show putF f v ((k,x) :: r)=(if k=f then (k,v) :: r else (k,x) :: putF f v r) from rfl];by_cases a:k=f
  ·rw [if_pos a,ya4,ya4];omega
  ·rw [if_neg a,ya4,ya4];omega
theorem RelO.some_of {v:V} {o:Option yae} (r:RelO (some v) o):∃ u,o=some u/\RelV v u:=by
 cases o with
 | none=>exact (show False from r).elim
 | some u=>exact ⟨u,rfl,r⟩
theorem RelO.none_of {o:Option yae} (r:RelO none o):o=none:=by
 cases o with
 | none=>rfl
 | some u=>exact (show False from r).elim
theorem handed_of {v:V} {u:yae} (r:RelV v u):PySem.W.handedIn u=true:=by
 cases v with
 | non=>cases (show u=ycm from r);rfl
 | bl b=>cases (show u=ydm b from r);rfl
 | int i=>obtain ⟨t,e⟩:=(show ∃ t,u=ycI i t from r);cases e;rfl
 | str x=>obtain ⟨t,e⟩:=(show ∃ t,u=ydj x t from r);cases e;rfl
 | byt b=>obtain ⟨t,e⟩:=(show ∃ t,u=Value.bytes b t from r);cases e;rfl
 | flt b=>obtain ⟨t,e⟩:=(show ∃ t,u=Value.float b t from r);cases e;rfl
 | ref a=>cases (show u=yaq a from r);rfl
 | ty n=>cases (show u=ycn n from r);rfl
section
variable {P:yas} {w:yaS} {H H':Hp} {h h':Heap} {a C dx:Addr} {fs fs':List (Str×V)}
theorem zes (c:HOk P w H h) (e:H a=some (.ins C dx fs)):∃ b,ObjM h a dx C b/\(∀ f,RelO (fs.lookup f) (b f))/\PySem.Within b (fs.map (·.1))/\fs.length<=1000/\H dx=some (.own a):=by
 obtain ⟨d,z,g,ob,b,n,r,q⟩:=(show ObjOk P w H h a (.ins C dx fs) from c a _ e);exact ⟨b,⟨ob,n,g⟩,r,q,z,d⟩
end
structure Cls (K:PySem.W.Frag) (C:Addr):Prop where
 pg:yeT K C Str.empty=true
 hd:yfA K C=true
 po:PySem.W.plainOver K C=true
 sa:ya5 K (.ref C) "__setattr__" = some (some (.builtin "object.__setattr__"))
theorem Cls.get {K:PySem.W.Frag} {C:Addr} (c:Cls K C) (f:Str):yeT K C f=true:=c.pg
def NoAttr (K:PySem.W.Frag) (C:Addr) (f:Str):Prop:=ya5 K (.ref C) f=some none
theorem NoAttr.taker {K:PySem.W.Frag} {C:Addr} {f:Str} (n:NoAttr K C f):PySem.W.takerIn K C f=some none:=by
 unfold PySem.W.takerIn;rw [show ya5 K (.ref C) f=some none from n];rfl
structure Meth (K:PySem.W.Frag) (C:Addr) (m:Str) (f:Addr):Prop where
 at_:ya5 K (.ref C) m=some (some (.ref f))
 fn:yeN K (.ref f)=true
 kp:ycd K (.ref f)=true
section
variable {X:Cx} {pins:List (Addr×Obj)} {σ:St} {H:Hp} {s:yag} {a C dx:Addr} {fs:List (Str×V)} {f:Str} {v:V} {A:yaM} {E:yae->yag->Prop}
theorem zfE {b:Bool} {Q:yae->yag->Prop} (I:Inv X pins σ H s) (e:H a=some (.ins C dx fs)) (c:Cls X.K C) (n:NoAttr X.K C f) (l:fs.lookup f=some v)
  (h:∀ u g,Inv X pins σ H g->RelV v u->Q u g):wpAny (model X.prog X.w) A (getAttr (.ref a) f b) Q E s:=by
 obtain ⟨j,O,r,_,_,_⟩:=zes I.hok e;obtain ⟨u,i,d⟩:=RelO.some_of (v:=v) (o:=j f) (by rw [<- l];exact r f);exact get_map I.kIn O (c.get f) c.hd n i (handed_of d) (h u _ (I.tok _) d)
theorem zfz {m:Str} {g:Addr} {pl:Sem Bool} {Q:yae×List yae->yag->Prop} (I:Inv X pins σ H s) (e:H a=some (.ins C dx fs)) (c:Cls X.K C) (k:Meth X.K C m g) (l:fs.lookup m=none)
  (h:Q (.ref g,[.ref a]) s):wpAny (model X.prog X.w) A (getMethod (.ref a) m pl) Q E s:=by
 obtain ⟨d,O,r,_,_,_⟩:=zes I.hok e;have b:d m=none:=RelO.none_of (by rw [<- l];exact r m);exact get_meth I.kIn O (c.get m) k.at_ k.fn b h
theorem zfK {y:V} {u:yae} {Q:Unit->yag->Prop} (I:Inv X pins σ H s) (e:H a=some (.ins C dx fs)) (c:Cls X.K C) (n:NoAttr X.K C f) (B:fs.length < 1000) (m:RelV y u)
  (h:∀ l,Inv X pins σ (upd H a (.ins C dx (putF f y fs))) l->Q () l):wpAny (model X.prog X.w) A (setAttr (.ref a) f u) Q E s:=by
 obtain ⟨i,O,r,k,_,j⟩:=zes I.hok e;have hz:(fs.map (·.1)).length<=yaO:=by rw [yab,yd3];omega
 refine set_map I.kIn O c.sa c.po n.taker c.hd k hz λh' d p=>h _ ?_;have hd:∃ o,h'.get? dx=some o:=let ⟨o,_,_,e',_⟩:=d.ns;⟨o,e'⟩;refine I.write (x:=a) (e:=dx) (by rw [e];exact ybA) (.inr j) (λb q v z=>(p.2 b v).trans z) hd ?_;refine ⟨by rw [zaf O.ne];exact j,?_,O.ne,d.obj,_,d.ns,λg => ?_,λg t => ?_⟩
 ·have:=zeC f y fs;omega
 ·show RelO ((putF f y fs).lookup g) (if g=f then some u else i g);rw [zeO];by_cases q:g=f
  ·rw [if_pos q,if_pos q];exact m
  ·rw [if_neg q,if_neg q];exact r g
 ·by_cases q:g=f
  ·rw [q];exact (zev f y fs).1
  ·refine (zev f y fs).2 g (k g λz=>t ?_);show (if g=f then some u else i g)=none;rw [if_neg q];exact z
theorem Inv.made (I:Inv X pins σ H s):Inv X pins σ (upd (upd H s.heap.objs.size (.own (s.heap.objs.size+1))) (s.heap.objs.size+1) (.ins C s.heap.objs.size []))
  { s with heap:=(s.heap.push ybP).push (ycz C s.heap.objs.size) }:=by
 have e1:(s.heap.push ybP).get? s.heap.objs.size=some ybP:=yan s.heap rfl;have e2:((s.heap.push ybP).push (ycz C s.heap.objs.size)).get? (s.heap.objs.size+1)=some (ycz C s.heap.objs.size):=by
  have:=yan (s.heap.push ybP) (o:=ycz C s.heap.objs.size) rfl
  rwa [ybr] at this
 have e3:(s.heap.push ybP).Ns s.heap.objs.size (λ_=>none):=⟨ybP,#[],_,e1,rfl,(λe d=>absurd d (by simp)),λ_=>rfl⟩;have g:=I.laid (a:=s.heap.objs.size) (o := .own (s.heap.objs.size+1)) (h':=s.heap.push ybP) (t':=s.toks) (λb u q=>yad _ q) (yaj _) ⟨_,e1⟩;refine g.laid (a:=s.heap.objs.size+1) (o := .ins C s.heap.objs.size []) (t':=s.toks) (λb u q=>yad _ q) (yfp (ybr _ _)) ?_;have c:s.heap.objs.size≠s.heap.objs.size+1:=yay (ycq _);refine ⟨by rw [zaf c,zab],yaW _,c,e2,λ_=>none,(Heap.Ns1.of_empty e3).at λo q=>yad _ q,λ_=>ybA,λy f=>absurd rfl f⟩
theorem attr_of {prog:yas} {w:yaS} {env:Env} {e:Expr} {f:Str} {pos:Pos} {s:yag} {Q:yae->yag->Prop} (b:ycv e f env (eval e env)=eval e env)
  (h:wpAny (model prog w) A (eval e env) (λo a=>wpAny (model prog w) A (getAttr o f true) Q E a) E s):wpAny (model prog w) A (eval (.Attribute e f pos) env) Q E s :=
 Attribute_any_ h (by rw [arm_eval_Attribute,b])
end
def tFld (K:PySem.W.Frag) (ta:TE) (f:Str):TE:=λσ H Q=>ta σ H λx H1=>∃ a C dx fs v,x = .ref a/\H1 a=some (.ins C dx fs)/\Cls K C/\NoAttr K C f/\fs.lookup f=some v/\Q v H1
def sFld (K:PySem.W.Frag) (ta tv:TE) (f:Str):TS:=λD σ H=>tv σ H λy H1=>ta σ H1 λx H2=>∃ a C dx fs,x = .ref a/\H2 a=some (.ins C dx fs)/\Cls K C/\NoAttr K C f/\fs.length < 1000 /\
 D.nx σ (upd H2 a (.ins C dx (putF f y fs)))
def InOp (X:Cx) (op:Operator) (rd:V->V->Hp->VK->Prop):Prop :=
 ∀ (pins:List (Addr×Obj)) (s:yag) (σ:St) (H:Hp) (x y:V) (u v:yae) (Q:VK),Inv X pins σ H s->RelV x u->RelV y v->rd x y H Q->wpAny (model X.prog X.w) X.A (inplaceOp op u v) (EP X pins σ Q) X.xe s
def sFldAug (K:PySem.W.Frag) (ta tv:TE) (rd:V->V->Hp->VK->Prop) (f:Str):TS:=λD σ H=>ta σ H λx H1=>∃ a C dx fs v,x = .ref a/\H1 a=some (.ins C dx fs)/\Cls K C/\NoAttr K C f/\fs.lookup f=some v /\
 tv σ H1 λy H2=>rd v y H2 λz H3=>∃ dx' fs',H3 a=some (.ins C dx' fs')/\fs'.length < 1000/\D.nx σ (upd H3 a (.ins C dx' (putF f z fs')))
section
variable {X:Cx} {o e value:Expr} {f:Str} {pos pos' tpos:Pos} {ta tv:TE}
theorem pe_fld (g:PE X e ta) (j:ycv e f X.env (eval e X.env)=eval e X.env):PE X (.Attribute e f pos) (tFld X.K ta f):=by
 intro pins s o H Q I h;refine attr_of j (thn (g pins s o H _ I h) λu t b => ?_);obtain ⟨x,i,p,m,a,C,dx,fs,v,ex,ea,c,n,l,q⟩:=b;subst ex;obtain rfl:u=yaq a:=m;exact zfE p ea c n l λr y d k=>⟨v,i,d,k,q⟩
theorem zdX (t:PE X o ta) (j:PE X value tv) (hs:swapsWith value (some (.Attribute o f pos')) pos.line X.env=pure false):PS X (.Assign [.Attribute o f pos'] value pos) (sFld X.K ta tv f):=by
 intro pins s b H D I h;refine plainObj_wpAny_Assign_Attribute (thn (j pins s b H _ I h) λu k ⟨y,m,z,p,q⟩=>thn (t pins k b m _ z q) λi E d => ?_) hs;obtain ⟨x,B,e,r,a,C,dx,fs,ex,ea,c,n,l,v⟩:=d;subst ex;obtain rfl:i=yaq a:=r;exact zfK e ea c n l p λA g=>⟨b,_,g,v⟩
theorem ps_fldaug {op:Operator} {i:V->V->Hp->VK->Prop} (U:PE X o ta) (E:PE X value tv) (e:InOp X op i):PS X (.AugAssign (.Attribute o f tpos) op value pos) (sFldAug X.K ta tv i f):=by
 intro pins s d H D I h;refine wpAny_AugAssign_AttributeAny (thn (U pins s d H _ I h) λB s1 b => ?_);obtain ⟨x,F,W,M,a,C,dx,fs,v,ex,ea,c,n,l,q⟩:=b;subst ex;obtain rfl:B=yaq a:=M;refine zfE W ea c n l λu N p L=>thn (E pins N d F _ p q) λJ j ⟨y,t,A,G,O⟩=>thn (e pins j d t v y u J _ A L G O) λw4 Y b => ?_;obtain ⟨z,Z,r,S,R,fs',g,k,m⟩:=b;exact zfK r g c n k S λs5 Q=>⟨d,_,Q,m⟩
def rAdd:V->V->Hp->VK->Prop:=λx y H Q=>∃ i j,x = .int i/\y = .int j/\Q (.int (i+j)) H
theorem in_add:InOp X .Add rAdd:=by
 rintro pins s c H x y u v Q I b a ⟨i,j,rfl,rfl,q⟩;obtain ⟨t,rfl⟩:=(show ∃ t,u=ycI i t from b);obtain ⟨t',rfl⟩:=(show ∃ t',v=ycI j t' from a);exact PyProof.Rows.iadd_int ⟨.int (i+j),H,I.tok _,⟨_,rfl⟩,q⟩
end
section
variable {X:Cx} {pins:List (Addr×Obj)} {σ:St} {H:Hp} {s:yag} {A:yaM} {E:yae->yag->Prop} {Q:yae->yag->Prop} {c:yae} {b:Bool}
inductive TyOf (K:PySem.W.Frag) (H:Hp):V->yae->Prop where
 | non:TyOf K H .non (.type "NoneType")
 | bl (x:Bool):TyOf K H (.bl x) (.type "bool")
 | int (i:Int):TyOf K H (.int i) (.type "int")
 | str (x:Str):TyOf K H (.str x) (.type "str")
 | flt (x:UInt64):TyOf K H (.flt x) (.type "float")
 | lst {a:Addr} {xs:List V} (e:H a=some (.lst xs)):TyOf K H (.ref a) (.type "list")
 | frz {a:Addr} {o:Obj} {xs:List V} (e:H a=some (.frz o (.lst xs))):TyOf K H (.ref a) (.type "list")
 | tup {a:Addr} {xs:List V} (e:H a=some (.tup xs)):TyOf K H (.ref a) (.type "tuple")
 | dK {a:Addr} {kvs:List (Key×V)} (e:H a=some (.dK kvs)):TyOf K H (.ref a) (.type "dict")
 | dT {a:Addr} {kvs:List (List Key×V)} (e:H a=some (.dT kvs)):TyOf K H (.ref a) (.type "dict")
 | ins {a C dx:Addr} {fs:List (Str×V)} (e:H a=some (.ins C dx fs)) (cl:Cls K C) (ha:ya5 K (.ref C) "__class__" = some (some (.builtin "object.__class__")))
   (hn:PySem.W.specialIn K (.builtin "object.__class__") "__get__" = some (some (.builtin "getset_descriptor.__get__"))) (htk:PySem.W.takesIn K (.builtin "object.__class__")=some true)
   (hm:PySem.W.mroIn K C (.type "object")=some true):TyOf K H (.ref a) (.ref C)
theorem isinst_ok {x:V} {u t:yae} (I:Inv X pins σ H s) (d:RelV x u) (f:TyOf X.K H x t) (e:ybg X.K t c=some b) (h:∀ g,Q (.bool b) { s with toks:=g }) :
  wpAny (model X.prog X.w) A (call (.builtin "isinstance") [u,c]) Q E s:=by
 cases f with
 | non=>cases (show u=ycm from d);exact ybL PySem.W.kitx_none I.kIn ybA e (λz=>nomatch z) h
 | bl y=>cases (show u=ydm y from d);exact ybL PySem.W.kitx_bool I.kIn ybA e (λz=>nomatch z) h
 | int i=>obtain ⟨t,q⟩:=(show ∃ t,u=ycI i t from d);cases q;exact ybL PySem.W.kitx_int I.kIn ybA e (λz=>nomatch z) h
 | str y=>obtain ⟨t,q⟩:=(show ∃ t,u=ydj y t from d);cases q;exact ybL PySem.W.kitx_str I.kIn ybA e (λz=>nomatch z) h
 | flt y=>obtain ⟨t,q⟩:=(show ∃ t,u=Value.float y t from d);cases q;exact ybL PySem.W.kitx_float I.kIn ybA e (λz=>nomatch z) h
 | @lst a xs ea =>
  cases (show u=yaq a from d);obtain ⟨_,_,n,_,h1⟩:=(show ObjOk X.prog X.w H s.heap a (.lst xs) from I.hok a _ ea);exact ybL yeA I.kIn ⟨_,h1,rfl⟩ e (λz=>nomatch z) h
 | @frz a ob xs ea =>
  cases (show u=yaq a from d);obtain ⟨_,_,_,n,_,h1⟩:=(show ObjOk X.prog X.w H s.heap a (.frz ob (.lst xs)) from I.hok a _ ea);exact ybL yeA I.kIn ⟨_,h1,rfl⟩ e (λz=>nomatch z) h
 | @tup a xs ea =>
  cases (show u=yaq a from d);obtain ⟨_,_,_,p⟩:=(show ObjOk X.prog X.w H s.heap a (.tup xs) from I.hok a _ ea);obtain ⟨o,h1,h2,_⟩:=p;exact ybL PySem.W.kitx_tuple I.kIn ⟨o,h1,h2⟩ e (λz=>nomatch z) h
 | @dK a kvs ea =>
  cases (show u=yaq a from d);obtain ⟨_,_,vs,_,p⟩:=(show ObjOk X.prog X.w H s.heap a (.dK kvs) from I.hok a _ ea);obtain ⟨o,es,ep,h1,h2,_⟩:=p;exact ybL yeB I.kIn ⟨o,h1,h2.1⟩ e (λz=>nomatch z) h
 | @dT a kvs ea =>
  cases (show u=yaq a from d);obtain ⟨_,_,xs,_,o,es,ep,h1,h2,_⟩:=(show ObjOk X.prog X.w H s.heap a (.dT kvs) from I.hok a _ ea);exact ybL yeB I.kIn ⟨o,h1,h2.1⟩ e (λz=>nomatch z) h
 | @ins a C dx fs ea cl ha hn htk hm =>
  cases (show u=yaq a from d);obtain ⟨j,O,_⟩:=zes I.hok ea;obtain ⟨od,J,_⟩:=O.look;exact ybL (PySem.W.kitx_own (cl.get _) cl.hd ha hn htk hm) I.kIn J e (λz=>nomatch z) h
end
structure Room (k:Nat) (A:yaM):Prop where
 hd:A.handled=none
 dp:A.depth+3*k+5 < recursionLimit
 un:A.units+16*k+200 < cLine
 gd:A.guards=some []
theorem Room.mono {j k:Nat} {A:yaM} (r:Room k A) (h:j<=k):Room j A:=⟨r.hd,by have:=r.dp;omega,by have:=r.un;omega,r.gd⟩
theorem Room.deeper {k:Nat} {A:yaM} (r:Room (k+1) A) (env:Env):Room k (A.deeper env) :=
 ⟨r.hd,by have:=r.dp;show A.depth+1+3*k+5 < _;omega,by have:=r.un;show A.units+3+16*k+200 < _;omega,r.gd⟩
theorem ziN {A:yaM} {C:Addr} {us:List yae} {a:List (Str×yae)}:(A.under (.builtin "type.__call__" ⟨.ref C :: us,a⟩)).depth=A.depth+1:=by
 first | rfl | simp [Around.under,Code.weight,Code.isCreation,Code.isGuard,Code.isCaller,Code.frames,Code.isFrame,guardIds]
theorem ziD {A:yaM} {C:Addr} {us:List yae} {a:List (Str×yae)}:(A.under (.builtin "type.__call__" ⟨.ref C :: us,a⟩)).units=A.units+1:=by
 first | rfl | simp [Around.under,Code.cUnits,Code.frames,Code.isFrame]
theorem Room.make {k:Nat} {A:yaM} (r:Room (k+1) A) (C:Addr) (us:List yae) (a:List (Str×yae)):Room k (A.under (.builtin "type.__call__" ⟨.ref C :: us,a⟩)) :=
 ⟨r.hd,by have:=r.dp;rw [ziN];omega,by have:=r.un;rw [ziD];omega,r.gd⟩
theorem Room.depth {k:Nat} {A:yaM} (r:Room k A):A.depth < recursionLimit:=by have:=r.dp;omega
theorem Room.units {k:Nat} {A:yaM} (r:Room k A):A.units+64 < cLine:=by have:=r.un;omega
theorem Room.units0 {k:Nat} {A:yaM} (r:Room k A):A.units < cLine:=by have:=r.un;omega
def tNil:TA:=λ_ H Q=>Q [] H
def tCons (ta:TE) (tr:TA):TA:=λσ H Q=>ta σ H λx H1=>tr σ H1 λxs H2=>Q (x :: xs) H2
section
variable {X:Cx} {e:Expr} {es:List Expr} {te:TE} {t:TA} {pos:Pos}
theorem zae:PA X [] tNil:=λ_ _ _ _ H Q I h=>ycY ⟨[],H,I,.nil,h⟩
theorem zaa (m:PE X e te) (k:PA X es t) (hs:yaZ (e :: es) X.env=(false,eval e X.env) :: yaZ es X.env:=by rfl):PA X (e :: es) (tCons te t):=by
 intro pos pins s b H Q I h;rw [hs];show wpAny _ _ (spliced ((false,eval e X.env) :: ydM pos (yaZ es X.env))) _ _ s;refine ybG (thn (m pins s b H _ I h) λu i a => ?_);obtain ⟨x,j,o,f,l⟩:=a;exact thn (k pos pins i b j _ o l) (by rintro us p ⟨xs,g,d,c,n⟩;exact ⟨x :: xs,g,d,.cons f c,n⟩)
def tTup (t:TA):TE:=λσ H Q=>t σ H λxs H1=>xs.length<=yaO/\∀ p,H1 p=none->Q (.ref p) (upd H1 p (.tup xs))
def tLst (t:TA):TE:=λσ H Q=>t σ H λxs H1=>xs.length<=yaO/\∀ p,H1 p=none->Q (.ref p) (upd H1 p (.lst xs))
theorem zaU {x1} (h:PA X es t):PE X (.Tuple es x1 pos) (tTup t):=by
 intro pins s g H Q I f;refine wpAny_Tuple_spliced (thn (h pos pins s g H _ I f) λus a ⟨xs,c,d,r,z,q⟩=>⟨by rw [<- r.length];exact z,?_⟩);have i:c a.heap.objs.size=none:=d.hok.fresh (yaj _);refine ⟨.ref a.heap.objs.size,upd c a.heap.objs.size (.tup xs),d.laid (t':=a.toks) (λb u e=>yad _ e) (yaj _) ?_,rfl,q _ i⟩;exact ⟨z,us,r,⟨_,yan _ rfl,rfl,_,rfl⟩⟩
theorem za3 (h:PA X es t):PE X (.List es pos) (tLst t):=by
 intro pins s g H Q I f;refine wpAny_List_spliced (thn (h pos pins s g H _ I f) λus a ⟨xs,c,d,r,z,q⟩=>⟨by rw [<- r.length];exact z,?_⟩);have i:c a.heap.objs.size=none:=d.hok.fresh (yaj _);refine ⟨.ref a.heap.objs.size,upd c a.heap.objs.size (.lst xs),d.laid (t':=a.toks) (λb u e=>yad _ e) (yaj _) ?_,rfl,q _ i⟩;exact ⟨z,us,0,r,yan _ rfl⟩
end
abbrev Sp:=List V->Hp->VK->XK->Prop
abbrev CXT:=List Env->Hp->yag->XK->yae->yag->Prop
structure Env0 (P:yas) (w:yaS) (K:PySem.W.Frag) (mg:Str->Option yae) (base:Heap) (A:yaM) (outer:List Env) (s:yag) (H:Hp):Prop where
 frames:A.frames=some outer
 mod:Mod K mg base
 bs:∀ b o,base.get? b=some o->s.heap.get? b=some o/\H b=none
 bsz:base.objs.size<=s.heap.objs.size
 funs:s.heap.FunFrames base outer
 frf:∀ b∈frs outer,H b=none
 hok:HOk P w H s.heap
 bare:AllBare s.gens
def CE (outer:List Env) (P:yas) (w:yaS) (H:Hp) (s:yag) (Q:VK) (u:yae) (s':yag):Prop :=
 ∃ v H',s'.os=s.os/\AllBare s'.gens/\Un (frs outer) [] H H' s.heap s'.heap/\HOk P w H' s'.heap/\RelV v u/\Q v H'
def CR (CX:CXT) (outer:List Env) (P:yas) (w:yaS) (H:Hp) (s:yag) (Q:VK) (E:XK) (r:Result) (s':yag):Prop :=
 match r with
 | .ok (.ret u)=>CE outer P w H s Q u s'
 | .ok _=>False
 | .error e=>CX outer H s E e s'
structure FnOk (P:yas) (w:yaS) (K:PySem.W.Frag) (mg:Str->Option yae) (base:Heap) (CX:CXT) (k:Nat) (f:Addr) (fd:FuncData) (ps:List Str) (sp:Sp):Prop where
 len:∀ vs H Q E,sp vs H Q E->vs.length=ps.length
 run:∀ (A:yaM) (outer:List Env) (s:yag) (H:Hp) (args:Args) (us:List yae) (vs:List V) (Q:VK) (E:XK),Room k A->Env0 P w K mg base A outer s H->BindsTo s fd args (ps.zip us)->Vals vs us->sp vs H Q E ->
  yeg (model P w) A (.call (.ref f) args) (CR CX outer P w H s Q E) s
theorem Env0.make {P:yas} {w:yaS} {K:PySem.W.Frag} {mg:Str->Option yae} {base:Heap} {A:yaM} {outer:List Env} {s:yag} {H:Hp} (e:Env0 P w K mg base A outer s H) (C:Addr) (us:List yae) (a:List (Str×yae)) :
  Env0 P w K mg base (A.under (.builtin "type.__call__" ⟨.ref C :: us,a⟩)) outer s H:=⟨by first | exact e.frames | (simpa [Around.under,Code.envs,Code.isFrame,pushEnvs] using e.frames),e.mod,e.bs,e.bsz,e.funs,e.frf,e.hok,e.bare⟩
section
variable {X:Cx} {pins:List (Addr×Obj)} {σ:St} {H:Hp} {s s':yag}
theorem Inv.env0 (I:Inv X pins σ H s):Env0 X.prog X.w X.K X.mg X.base X.A X.stack s H :=
 ⟨I.ok.frames,I.ok.mod,I.bs,yaY I.ok.bsz I.sz,I.stack,I.stkFree,I.hok,I.bare⟩
theorem Inv.after {Q:VK} {u:yae} (I:Inv X pins σ H s) (h:CE X.stack X.prog X.w H s Q u s'):EP X pins σ Q u s':=by
 obtain ⟨v,H',os,a,un,e,r,q⟩:=h;obtain ⟨f,g,d,t,c⟩:=s';obtain rfl:c=s.os:=os;exact ⟨v,H',I.call (h':=f) (g':=g) (d':=d) (t':=t) (ch := []) un e a (λb z=>absurd z (by simp)),r,q⟩
end
def tCall (sp:Sp) (dvs:List V) (E:XK) (t:TA):TE:=λσ H Q=>t σ H λvs H1=>sp (vs++dvs) H1 Q E
def tMeth (C:Addr) (m:Str) (sp:Sp) (dvs:List V) (E:XK) (ta:TE) (t:TA):TE:=λσ H Q=>ta σ H λx H1=>∃ a dx fs,x = .ref a/\H1 a=some (.ins C dx fs)/\fs.lookup m=none /\
 t σ H1 λvs H2=>sp (x :: (vs++dvs)) H2 Q E
def tMake (C:Addr) (sp:Sp) (dvs:List V) (E:XK) (t:TA):TE:=λσ H Q=>t σ H λvs H1=>∀ x dx,H1 x=none->H1 dx=none->dx≠x ->
 sp (.ref x :: (vs++dvs)) (upd (upd H1 dx (.own x)) x (.ins C dx [])) (λv H2=>v = .non/\Q (.ref x) H2) E
def Binds (K:PySem.W.Frag) (fd:FuncData) (ps:List Str) (ds:List yae):Prop :=
 ∀ (s:yag) (us:List yae),K.In s.heap->(us++ds).length=ps.length->BindsTo s fd ⟨us,[]⟩ (ps.zip (us++ds))
theorem Binds.all {K:PySem.W.Frag} {b:FuncData} {ps:List Str} (h:∀ us:List yae,us.length=ps.length->bindArgs b ⟨us,[]⟩=pure (ps.zip us)):Binds K b ps []:=λs us _ a=>by
 rw [ych] at a ⊢;exact .of_eq (h us a)
def zeA (CX:CXT) (X:Cx) (E:XK):Prop:=∀ (pins:List (Addr×Obj)) (σ:St) (H:Hp) (s:yag) (e:yae) (s':yag),Inv X pins σ H s->CX X.stack H s E e s'->X.xe e s'
section
variable {X:Cx} {CX:CXT} {k:Nat} {f C:Addr} {fd:FuncData} {ps:List Str} {sp:Sp} {dvs:List V} {ds:List yae} {E:XK} {x m:Str} {p pos apos:Pos} {e o:Expr} {es:List Expr} {ta:TE} {t:TA}
theorem run_fn {pins:List (Addr×Obj)} {b:St} {H:Hp} {s:yag} {Q:VK} {us:List yae} {vs:List V} (F:FnOk X.prog X.w X.K X.mg X.base CX k f fd ps sp) (l:Room k X.A) (m:Binds X.K fd ps ds) (hd:Vals dvs ds) (j:zeA CX X E)
  (I:Inv X pins b H s) (r:Vals vs us) (h:sp (vs++dvs) H Q E):wpAny (model X.prog X.w) X.A (call (.ref f) us) (EP X pins b Q) X.xe s:=by
 have c:Vals (vs++dvs) (us++ds):=r.append hd;have g:(us++ds).length=ps.length:=by rw [<- c.length];exact F.len _ _ _ _ h
 refine wpAny_call (yea (F.run X.A X.stack s H ⟨us,[]⟩ (us++ds) (vs++dvs) Q E l I.env0 (m s us I.kIn g) c h) λr i a => ?_);cases r with
 | error e=>exact j pins b H s e i I a
 | ok d =>
  cases d with
  | ret u=>exact I.after a
  | next=>exact ycF a
  | brk=>exact ycF a
  | cont=>exact ycF a
theorem pe_call (F:FnOk X.prog X.w X.K X.mg X.base CX k f fd ps sp) (n:Room k X.A) (i:Gl X x) (m:X.mg x=some (.ref f)) (d:ycd X.K (.ref f)=true) (u:Binds X.K fd ps ds) (hd:Vals dvs ds) (o:zeA CX X E)
  (j:PA X (e :: es) t) (b:(x == ("__debug__" : Str))=false:=by decide) (l:yaZ (e :: es) X.env=(false,eval e X.env) :: yaZ es X.env:=by rfl) (a:(ydM pos (yaZ es X.env)).any (·.1)=false:=by rfl) :
  PE X (.Call (.Name x p) (e :: es) [] pos) (tCall sp dvs E t):=by
 intro pins s g H Q I h;refine ycK (zhy I i m ?_ b);refine yfq (h₀:=X.base) I.ok.mod.kin d (thn (j pos pins s g H _ I h) λus v ⟨vs,y,c,r,q⟩=>⟨c.kIn,?_⟩) l a;exact run_fn F n u hd o c r q
theorem pe_meth {pl:Sem Bool} (z:PE X o ta) (c:Cls X.K C) (j:Meth X.K C m f) (F:FnOk X.prog X.w X.K X.mg X.base CX k f fd ps sp) (J:Room k X.A) (L:Binds X.K fd ps ds) (hd:Vals dvs ds) (B:zeA CX X E) (N:PA X (e :: es) t)
  (g:yaZ (e :: es) X.env=(false,eval e X.env) :: yaZ es X.env:=by rfl) (b:(ydM pos (yaZ es X.env)).any (·.1)=false:=by rfl)
  (y:eval (.Call (.Attribute o m apos) (e :: es) [] pos) X.env=(do
   let n <- eval o X.env
   standAt apos.atName
   let (f,first) <- holding [n] (getMethod n m pl)
   callWith pos f first (ydM pos (yaZ (e :: es) X.env)) (backToKw pos (yd4 [] X.env))):=by rfl) :
  PE X (.Call (.Attribute o m apos) (e :: es) [] pos) (tMeth C m sp dvs E ta t):=by
 intro pins s p H Q I h;refine PySem.W.methodCall_KW (pl:=pl) (thn (z pins s p H _ I h) λu D d => ?_) y;obtain ⟨x,G,v,M,a,dx,fs,ex,ea,l,q⟩:=d;subst ex;obtain rfl:u=yaq a:=M;refine zfz v ea c j l ?_;refine yfq (first := [.ref a]) (h₀:=X.base) I.ok.mod.kin j.kp (thn (N pos pins D p G _ v q) λus S ⟨vs,R,i,r,O⟩=>⟨i.kIn,?_⟩) g b;exact run_fn (us := .ref a :: us) (vs := .ref a :: vs) F J L hd B i (.cons rfl r) O
theorem pe_meth0 {pl:Sem Bool} (j:PE X o ta) (c:Cls X.K C) (e:Meth X.K C m f) (F:FnOk X.prog X.w X.K X.mg X.base CX k f fd ps sp) (p:Room k X.A) (r:Binds X.K fd ps ds) (hd:Vals dvs ds) (n:zeA CX X E)
  (i:eval (.Call (.Attribute o m apos) [] [] pos) X.env=(do
   let g <- eval o X.env
   standAt apos.atName
   let (f,first) <- holding [g] (getMethod g m pl)
   callWith pos f first (ydM pos (yaZ [] X.env)) (backToKw pos (yd4 [] X.env))):=by rfl) :
  PE X (.Call (.Attribute o m apos) [] [] pos) (tMeth C m sp dvs E ta tNil):=by
 intro pins s v H Q I h;refine PySem.W.methodCall_KW (pl:=pl) (thn (j pins s v H _ I h) λu y b => ?_) i;obtain ⟨x,z,d,t,a,dx,fs,ex,ea,l,q⟩:=b;subst ex;obtain rfl:u=yaq a:=t;refine zfz d ea c e l ?_;exact PySem.W.callWith_K0 (first := [.ref a]) d.kIn e.kp (run_fn (us := [.ref a]) (vs := [.ref a]) F p r hd n d (.cons rfl .nil) q)
structure Mk (K:PySem.W.Frag) (C f:Addr):Prop where
 makes:ye9 K C=true
 init:ya5 K (.ref C) "__init__" = some (some (.ref f))
 fn:yeN K (.ref f)=true
 kp:ycd K (.ref C)=true
theorem run_make {pins:List (Addr×Obj)} {c:St} {H:Hp} {s:yag} {Q:VK} {us:List yae} {vs:List V} (M:Mk X.K C f) (F:FnOk X.prog X.w X.K X.mg X.base CX k f fd ps sp) (n:Room (k+1) X.A) (p:Binds X.K fd ps ds) (hd:Vals dvs ds)
  (m:zeA CX X E) (I:Inv X pins c H s) (r:Vals vs us)
  (h:∀ x dx,H x=none->H dx=none->dx≠x->sp (.ref x :: (vs++dvs)) (upd (upd H dx (.own x)) x (.ins C dx [])) (λv i=>v = .non/\Q (.ref x) i) E) :
  wpAny (model X.prog X.w) X.A (call (.ref C) us) (EP X pins c Q) X.xe s:=by
 have g:=h (s.heap.objs.size+1) s.heap.objs.size (I.hok.fresh (yda _)) (I.hok.fresh (yaj _)) (yay (ycq _));have b:=Inv.made (C:=C) I;have d:Vals (V.ref (s.heap.objs.size+1) :: (vs++dvs)) (yaq (s.heap.objs.size+1) :: (us++ds)) := .cons rfl (r.append hd);have l:(yaq (s.heap.objs.size+1) :: us++ds).length=ps.length:=by
  have e:=d.length;rw [F.len _ _ _ _ g] at e;exact e.symm
 refine wpAny_call (make_map (f:=f) I.kIn M.makes M.init (beq_iff_eq.mp M.fn) (yea (F.run _ X.stack _ _ ⟨yaq (s.heap.objs.size+1) :: us,[]⟩ (yaq (s.heap.objs.size+1) :: (us++ds)) _ _ E (n.make C us [])
  (b.env0.make C us []) (p _ (yaq (s.heap.objs.size+1) :: us) b.kIn l) d g) λr y a => ?_))
 cases r with
 | error e=>exact m pins c _ _ e y b a
 | ok o =>
  cases o with
  | ret u =>
   obtain ⟨v,H',j,z,q,t⟩:=b.after a;subst q;exact ⟨z,⟨V.ref (s.heap.objs.size+1),H',j,rfl,t⟩⟩
  | next=>exact ycF a
  | brk=>exact ycF a
  | cont=>exact ycF a
theorem zfW (M:Mk X.K C f) (F:FnOk X.prog X.w X.K X.mg X.base CX k f fd ps sp) (m:Room (k+1) X.A) (g:Gl X x) (l:X.mg x=some (.ref C)) (o:Binds X.K fd ps ds) (hd:Vals dvs ds) (n:zeA CX X E)
  (i:PA X (e :: es) t) (b:(x == ("__debug__" : Str))=false:=by decide) (j:yaZ (e :: es) X.env=(false,eval e X.env) :: yaZ es X.env:=by rfl) (a:(ydM pos (yaZ es X.env)).any (·.1)=false:=by rfl) :
  PE X (.Call (.Name x p) (e :: es) [] pos) (tMake C sp dvs E t):=by
 intro pins s d H Q I h;refine ycK (zhy I g l ?_ b);refine yfq (h₀:=X.base) I.ok.mod.kin M.kp (thn (i pos pins s d H _ I h) λus u ⟨vs,v,c,r,q⟩=>⟨c.kIn,?_⟩) j a;exact run_make M F m o hd n c r q
end
section
variable {X:Cx} {CX:CXT} {k:Nat} {f C:Addr} {fd:FuncData} {ps ks:List Str} {sp:Sp} {E:XK} {x m:Str} {p pos apos kpos:Pos} {e o:Expr} {es:List Expr} {kws:List Keyword} {te ta:TE} {t tk:TA} {nm:Option Str}
variable {g:List yae->List yae->List yae} {gV:List V->List V->List V}
end
structure FnScope (N P:List Str) (sc:Scope):Prop where
 kind:sc.kind = .function
 co:sc.isCoroutine=false
 gen:sc.isGenerator=false
 nd:N.Nodup
 pre:N.take P.length=P
 par:∀ x∈P,sc.names.lookup x=some .local\/sc.names.lookup x=some .cell
 nofree:∀ y∈sc.names,y.2 ≠ .free
theorem zgp {a:Str->Option NameKind} {x:Str}:∀ {binds:List (Str×yae)} {m:Str->Option yae},(∀ v,(x,v)∉binds)->bindL a binds m x=m x
 | [],_,_=>rfl
 | (n,v) :: r,m,h=>by
  unfold bindL;rw [zgp λw hw=>h w (yal _ hw)];split
  ·have:x≠n:=by rintro rfl;exact h v yax
   simp [this]
  ·rfl
theorem zgx {a:Str->Option NameKind} {x:Str}:∀ {binds:List (Str×yae)} {m:Str->Option yae},(∀ v,(x,v)∉binds)->bindC a binds m x=m x
 | [],_,_=>rfl
 | (n,v) :: r,m,h=>by
  unfold bindC;rw [zgx λw hw=>h w (yal _ hw)];split
  ·rfl
  ·have:x≠n:=by rintro rfl;exact h v yax
   simp [this]
theorem zgv {a:Str->Option NameKind} {x:Str} {v:yae}:∀ {P:List Str} {vs:List yae} {i:Nat} {m:Str->Option yae},P.Nodup->P[i]? = some x->vs[i]? = some v->a x=some .local ->
  bindL a (P.zip vs) m x=some v
 | [],_,_,_,_,h,_,_=>by simp at h
 | _ :: _,[],_,_,_,_,h,_=>by simp at h
 | p :: P,w :: vs,0,m,nd,h1,h2,hk=>by
  simp at h1 h2;subst h1;subst h2;show bindL a ((p,w) :: P.zip vs) m p=_;unfold bindL;rw [zgp λv b=>(ybm.mp nd).1 (yeh b).1,if_pos hk];simp
 | p :: P,w :: vs,i+1,m,nd,h1,h2,hk=>by
  show bindL a ((p,w) :: P.zip vs) m x=_;unfold bindL;exact zgv (i:=i) (ybm.mp nd).2 (by simpa using h1) (by simpa using h2) hk
theorem zgJ {a:Str->Option NameKind} {x:Str} {v:yae}:∀ {P:List Str} {vs:List yae} {i:Nat} {m:Str->Option yae},P.Nodup->P[i]? = some x->vs[i]? = some v->a x≠some .local ->
  bindC a (P.zip vs) m x=some v
 | [],_,_,_,_,h,_,_=>by simp at h
 | _ :: _,[],_,_,_,_,h,_=>by simp at h
 | p :: P,w :: vs,0,m,nd,h1,h2,hk=>by
  simp at h1 h2;subst h1;subst h2;show bindC a ((p,w) :: P.zip vs) m p=_;unfold bindC;rw [zgx λv b=>(ybm.mp nd).1 (yeh b).1,if_neg hk];simp
 | p :: P,w :: vs,i+1,m,nd,h1,h2,hk=>by
  show bindC a ((p,w) :: P.zip vs) m x=_;unfold bindC;exact zgJ (i:=i) (ybm.mp nd).2 (by simpa using h1) (by simpa using h2) hk
def start (N:List Str) (vs:List V):St:=vs.map some++ybZ (N.length - vs.length) none
def cxOf (CX:CXT) (P:yas) (w:yaS) (K:PySem.W.Frag) (mg:Str->Option yae) (base:Heap) (N:List Str) (qual:Str) (scope:Scope) (f:Addr) (cd:yae) (A:yaM) (outer:List Env) (s:yag) (H:Hp) (E:XK):Cx where
 prog:=P
 w:=w
 K:=K
 mg:=mg
 base:=base
 A:=A.deeper (envOfC qual scope s.heap.objs.size f cd)
 N:=N
 s₀:=s
 H₀:=H
 env:=envOfC qual scope s.heap.objs.size f cd
 outer:=outer
 stack:=envOfC qual scope s.heap.objs.size f cd :: outer
 ex := []
 calm:=true
 fn:=λ_=>true
 pn := []
 xe:=λe s'=>wpAny (model P w) (A.deeper (envOfC qual scope s.heap.objs.size f cd)) (leaving (envOfC qual scope s.heap.objs.size f cd) e) (λ_ s''=>CX outer H s E e s'') (λe' s''=>CX outer H s E e' s'') s'
theorem zic {sc:Scope} {n:Nat} {x:Str} (h:sc.names.lookup x=some .cell):∃ c,(cellsFrom n sc.names []).lookup x=some c:=by
 have q:=PySem.W.cellsFrom_some sc.names n [] (.inl h);exact Option.isSome_iff_exists.mp q
theorem inv_start {CX:CXT} {P:yas} {w:yaS} {K:PySem.W.Frag} {mg:Str->Option yae} {base:Heap} {N ps:List Str} {qual:Str} {scope:Scope} {f:Addr} {cd:yae} {A:yaM} {outer:List Env} {s B:yag} {H:Hp} {E:XK} {us:List yae} {vs:List V}
  (S:FnScope N ps scope) (hd:A.handled=none) (d:Env0 P w K mg base A outer s H) (I:vs.length=ps.length) (r:Vals vs us)
  (x:InCallC s s.heap.objs.size (bindL (envOfC qual scope s.heap.objs.size f cd).kindOf (ps.zip us) λ_=>none) (cellsFrom (s.heap.objs.size+1) scope.names []) (bindC (envOfC qual scope s.heap.objs.size f cd).kindOf (ps.zip us) λ_=>none) B) :
  Inv (cxOf CX P w K mg base N qual scope f cd A outer s H E) [] (start N vs) H B:=by
 have C:ps.length<=N.length:=by have:=congrArg ycb S.pre;rw [yaA] at this;omega
 obtain ⟨h1,G,rfl,o⟩:=x.done;have g:∀ b:Addr,b∉(cxOf CX P w K mg base N qual scope f cd A outer s H E).ex:=λb z=>absurd (show b∈([]:List Addr) from z) (by simp);refine ⟨⟨d.mod,S.kind,rfl,rfl,yaj _,λy z c h1 h2 => ?_,λy j => ?_,λy c _ h => ?_,λ_=>hd,Around.frames_deeper d.frames,.inr ⟨rfl,rfl⟩,λb z=>absurd z (g b),d.bs,d.bsz,λb _ _=>g b,λb z=>absurd z (g b),d.funs,d.frf⟩,
  rfl,d.bare,Un.kept o,⟨_,x.toInCall.ns,λi y v h1 h2 J => ?_⟩,λy c h=>⟨_,x.cell y c h⟩,d.hok.fresh (yaj _),λy c h => ?_,λp m=>absurd (show p∈([]:List (Addr×Obj)) from m) (by simp),d.hok.kept o,?_⟩
 ·exact name_of_addr x.apart (ydb h1) (ydb h2)
 ·have j:scope.names.lookup y=some .cell\/scope.names.lookup y=some .free:=j;rcases j with j | j
  ·exact zic j
  ·exact absurd rfl (S.nofree _ (ydb j))
 ·exact yc6 (x.above y c (ydb h))
 ·have hi:i < vs.length:=by
   unfold start at h2;by_cases hi:i < vs.length
   ·exact hi
   ·rw [ycD (by simpa using hi)] at h2;rw [List.getElem?_replicate] at h2;split at h2 <;> cases h2
  have D:vs[i]? = some v:=by
   unfold start at h2;rw [ycS (by simpa using hi),yaf] at h2;cases e:vs[i]? with
   | none=>rw [e] at h2;cases h2
   | some a=>rw [e] at h2;cases h2;rfl
  obtain ⟨u,t,F⟩:=r.get D;have m:ps[i]? = some y:=by
   rw [<- S.pre,List.getElem?_take_of_lt (by omega)];exact h1
  have l:ps.Nodup:=by rw [<- S.pre];exact S.nd.sublist (ydG _ _)
  refine ⟨u,F,?_⟩;rcases S.par y (ycV m) with k | k
  ·exact .inl ⟨k,zgv l m t k⟩
  ·obtain ⟨c,e⟩:=zic (n:=s.heap.objs.size+1) k;refine .inr ⟨.inl k,c,e,?_⟩;have q:=x.cell y c e;rw [zgJ l m t (by show scope.names.lookup y≠_;rw [k];decide)] at q;exact q
 ·exact d.hok.fresh (yc6 (x.above y c (ydb h)))
 ·unfold start;show _=N.length;rw [yaK,yab,ycL];omega
theorem fn_of {CX:CXT} {P:yas} {w:yaS} {K:PySem.W.Frag} {mg:Str->Option yae} {base:Heap} {k:Nat} {f:Addr} {name qual:Str} {c:Arguments} {d:List Stmt} {scope:Scope} {O kV p M a ct oc:yae} {R od:Option Addr}
  {D:Array (Option yae)} {N ps:List Str} {sp:Sp} (lk:K.lookup f=some ⟨oc,od,.func (ycw name qual c d scope O kV p M R a ct),D⟩) (C:ydR K a qual=true) (S:FnScope N ps scope)
  (m:∀ vs H Q E,sp vs H Q E->vs.length=ps.length)
  (i:∀ (A:yaM) (outer:List Env) (s:yag) (H:Hp) (vs:List V) (Q:VK) (E:XK),Room k (A.deeper (envOfC qual scope s.heap.objs.size f a))->sp vs H Q E ->
   ∃ t,PSs (cxOf CX P w K mg base N qual scope f a A outer s H E) d t/\t { nx:=λ_ H'=>Q .non H',rt:=Q } (start N vs) H) :
  FnOk P w K mg base CX (k+1) f (ycw name qual c d scope O kV p M R a ct) ps sp:=by
 refine ⟨m,λA outer s H args us vs Q E F l hb r j => ?_⟩;have hl:=m _ _ _ _ j;have U:K.In s.heap:=l.mod.kin.keeps λb o e=>(l.bs b o e).1;have B:s.heap.NoLimit:=l.mod.nolimit.keeps λb o e=>(l.bs b o e).1;have h:∀ y∈ps.zip us,scope.names.lookup y.1=some .local\/(scope.names.lookup y.1=some .cell/\((cellsFrom (s.heap.objs.size+1) scope.names []).lookup y.1).isSome=true):=by
  rintro ⟨n,v⟩ hy;rcases S.par n (yeh hy).1 with q | q
  ·exact .inl q
  ·exact .inr ⟨q,PySem.W.cellsFrom_some _ _ _ (.inl q)⟩
 refine codeAny_call_function F.depth (U _ _ lk) rfl S.co S.gen rfl (PySem.W.codeRec_of U C) (hb _ _ _ _ ?_);refine wpAny_newFunctionEnv_cells S.kind h λenv he L x => ?_;subst he;refine ⟨B.keeps x.toInCall.keep,codeAny_func ?_⟩;obtain ⟨t,Z,Y⟩:=i A outer s H vs Q E (F.deeper _) j;have I:Inv (cxOf CX P w K mg base N qual scope f a A outer s H E) [] (start N vs) H L:=inv_start S F.hd l hl r x;refine ybJ (Z [] L (start N vs) H _ I Y) (λfl z hs => ?_) λe z hs=>hs;have fin:∀ {g:St} {H':Hp} {v:V} {u:yae},Inv (cxOf CX P w K mg base N qual scope f a A outer s H E) [] g H' z->RelV v u->Q v H'->CE outer P w H s Q u z :=
  λ{g H' v u} J G q=>⟨v,H',J.os,J.bare,J.base,J.hok,G,q⟩
 cases fl with
 | ret u =>
  obtain ⟨v,g,H',J,G,q⟩:=hs;exact fin J G q
 | next =>
  obtain ⟨g,H',J,q⟩:=hs;exact fin (v:=V.non) (u:=ycm) J rfl q
 | brk =>
  obtain ⟨_,_,_,q⟩:=hs;exact ycF q
 | cont =>
  obtain ⟨_,_,_,q⟩:=hs;exact ycF q
section
variable {X:Cx} {x:Str} {p pos:Pos} {e:Expr} {es:List Expr} {t:TA} {id T:String} {r:List V->Hp->VK->Prop}
def tCB (r:List V->Hp->VK->Prop) (t:TA):TE:=λσ H Q=>t σ H λvs H1=>r vs H1 Q
theorem zap (hc:CallR X (.builtin id) r) (g:Gl X x) (k:X.mg x=none) (m:ybf x=some (.builtin id)) (i:PA X (e :: es) t) (l:x ≠ "__name__":=by decide) (b:(x == ("__debug__" : Str))=false:=by decide)
  (j:yaZ (e :: es) X.env=(false,eval e X.env) :: yaZ es X.env:=by rfl) (a:(ydM pos (yaZ es X.env)).any (·.1)=false:=by rfl):PE X (.Call (.Name x p) (e :: es) [] pos) (tCB r t):=by
 intro pins s c H Q I h;refine ycK (zdh I g k m ?_ l b);exact PyProof.Rows.callWith_builtin1 (thn (i pos pins s c H _ I h) (by rintro us n ⟨vs,o,q,f,d⟩;exact hc pins n c o vs us Q q f d)) j a
theorem zaQ (hc:CallR X (.type T) r) (g:Gl X x) (k:X.mg x=none) (m:ybf x=some (.type T)) (i:PA X (e :: es) t) (l:x ≠ "__name__":=by decide) (b:(x == ("__debug__" : Str))=false:=by decide)
  (j:yaZ (e :: es) X.env=(false,eval e X.env) :: yaZ es X.env:=by rfl) (a:(ydM pos (yaZ es X.env)).any (·.1)=false:=by rfl):PE X (.Call (.Name x p) (e :: es) [] pos) (tCB r t):=by
 intro pins s c H Q I h;refine ycK (zdh I g k m ?_ l b);exact ybp (thn (i pos pins s c H _ I h) (by rintro us n ⟨vs,o,q,f,d⟩;exact hc pins n c o vs us Q q f d)) j a
end
end L2
namespace HT
open PySem PyProof.Rows
section
open PySem.SeqAt
open PySem.AutoSeq1 (wpAny_loadPart')
open PySem.MeetsSeq PySem.MeetsSeq2 PySem.MeetsSeq3
end
section
variable {prog:yas} {w:yaS} {A:yaM} {E:yae->yag->Prop} {s:yag}
theorem cat_tup {t b:Addr} {vs ws:List yae} {Q:yae->yag->Prop} (m:IsTup s.heap t vs.toArray) (o:IsTup s.heap b ws.toArray) (l:vs ≠ [])
  (h1:ws = []->Q (.ref t) s) (h2:ws ≠ []->Q (.ref s.heap.objs.size) { s with heap:=s.heap.push { cls := .type "tuple",data := .seq (vs++ws).toArray } })
  (hsz:vs.length+ws.length<=yaO):wpAny (model prog w) A (yd0 .Add (.ref t) (.ref b)) Q E s:=by
 obtain ⟨⟨cls,dd,data,j⟩,h,hc,n,hd⟩:=id m;obtain ⟨⟨i,f,data2,g⟩,a,d,k,c⟩:=id o;simp only at hc hd d c;subst hc hd d c;have e:vs.toArray++ws.toArray=(vs++ws).toArray:=by simp
 by_cases hw:ws = []
 ·exact concat_meets ⟨_,h,rfl⟩ ⟨_,a,rfl⟩ noFill_tuple_add seq_tuple_add yeu yei (yeb _ _)
   (tuple_addW1 t b vs.toArray ws.toArray n k dd f j g (by simpa using l) (by simp [hw])) ⟨h,a,h1 hw⟩
 ·refine concat_meets ⟨_,h,rfl⟩ ⟨_,a,rfl⟩ noFill_tuple_add seq_tuple_add yeu yei (yeb _ _)
   (tuple_addW2 t b vs.toArray ws.toArray n k dd f j g (by simpa using l) (by simpa using hw) (by rw [yaE,yaE];exact hsz)) ⟨h,a,?_⟩
  rw [e];exact h2 hw
def sIx (n d:Nat):Option Int->Nat
 | none=>d
 | some v=>if v < 0 then (v+(n:Int)).toNat else min v.toNat n
theorem sIx_nat (n d k:Nat):sIx n d (some (k:Int))=min k n:=by
 show (if (k:Int) < 0 then ((k:Int)+(n:Int)).toNat else min (k:Int).toNat n)=min k n;rw [if_neg (by omega),yeC]
theorem sIx_le (n d:Nat) (hd:d<=n) (o:Option Int):sIx n d o<=n:=by
 cases o with
 | none=>exact hd
 | some v =>
  show (if v < 0 then (v+(n:Int)).toNat else min v.toNat n)<=n;by_cases a:v < 0
  ·rw [if_pos a];omega
  ·rw [if_neg a];exact Nat.min_le_right _ _
theorem clip_eq (v:Int) (n d:Nat):(if v < 0 then max (v+(n:Int)) 0 else min v (n:Int))=((sIx n d (some v):Nat):Int):=by
 show (if v < 0 then max (v+(n:Int)) 0 else min v (n:Int))=(((if v < 0 then (v+(n:Int)).toNat else min v.toNat n):Nat):Int);by_cases a:v < 0
 ·simp only [if_pos a];omega
 ·simp only [if_neg a];omega
theorem ziI (lo hi:Option Int) (n:Nat):ydS lo hi 1 (n:Int)=(((sIx n 0 lo:Nat):Int),((sIx n n hi:Nat):Int)):=by
 have h1:¬ ((1:Int) < 0):=by omega
 unfold ydS;simp only [h1,if_false];refine Prod.ext ?_ ?_
 ·cases lo with
  | none=>rfl
  | some v=>exact clip_eq v n 0
 ·cases hi with
  | none=>rfl
  | some v=>exact clip_eq v n n
theorem zil (i j:Nat):ycT (i:Int) (j:Int) 1=j - i:=by
 unfold ycT;have h1:(1:Int) > 0:=by omega
 simp only [h1,if_true,Int.ediv_one];split <;> omega
theorem zfG {v:yae} {o:Option Int} {Q:Option Int->yag->Prop} (p:IsPart v o) (h:Q o s):wpAny (model prog w) A (Builtin.Slice.slicePartIndex v) Q E s:=by
 cases p with
 | none=>exact slicePart_none h
 | int i t=>exact slicePart_int h
theorem zd0 {e:Addr} {c d:yae} {lo hi:Option Int} {n:Nat} {Q:Int×Int×Nat->yag->Prop} (hs:s.heap.IsSliceOf e c d .none) (pl:IsPart c lo) (f:IsPart d hi)
  (h:Q (((sIx n 0 lo:Nat):Int),1,sIx n n hi - sIx n 0 lo) s):wpAny (model prog w) A (Builtin.Slice.sliceApplied (.ref e) (pure (n:Int))) Q E s:=by
 obtain ⟨os,b,g,a⟩:=id hs;unfold Builtin.Slice.sliceApplied Builtin.Slice.sliceFields;refine yac (yac (ybE b a (x:=c) rfl (yac (ybE b a (x:=d) rfl (yac (ybE b a (x := .none) rfl (yah ?_)))))));refine yac (slicePart_none ?_);show wpAny _ _ (if ((1:Int) == 0)=true then _ else _) _ _ s;rw [if_neg (by decide)];refine yac (zfG pl (yac (zfG f (yac (yah ?_)))));show wpAny _ _ (match ydS lo hi 1 (n:Int) with | (lo,hi)=>pure (lo,(1:Int),ycT lo hi 1)) _ _ s;rw [ziI lo hi n];show wpAny _ _ (pure (((sIx n 0 lo:Nat):Int),(1:Int),ycT ((sIx n 0 lo:Nat):Int) ((sIx n n hi:Nat):Int) 1)) _ _ s;rw [zil];exact yah h
theorem pick_gen (xs:Array yae) (i k:Nat):((ycE k).filterMap λ(m:Nat)=>xs[((i:Int)+(m:Int)*1).toNat]?).toArray=((xs.toList.drop i).take k).toArray:=by
 have e:(λ(m:Nat)=>xs[((i:Int)+(m:Int)*1).toNat]?)=λm=>xs[i+m]?:=by
  funext m
  have:((i:Int)+(m:Int)*1).toNat=i+m:=by omega
  rw [this]
 rw [e];have:=pick_run xs i k;rw [List.filterMap_map] at this;have e2:((λx=>xs[x]?) ∘ λx=>i+x)=λm=>xs[i+m]?:=rfl;rw [e2] at this;rw [this]
theorem getItem_tuple_cut {t f:Addr} {items:Array yae} {i j:yae} {lo hi:Option Int} {Q:yae->yag->Prop} (b:IsTup s.heap t items) (hs:s.heap.IsSliceOf f i j .none) (pl:IsPart i lo) (k:IsPart j hi)
  (hw:¬ (sIx items.size 0 lo=0/\sIx items.size items.size hi=items.size))
  (h:Q (.ref s.heap.objs.size) { s with heap:=s.heap.push { cls := .type "tuple",data := .seq ((items.toList.drop (sIx items.size 0 lo)).take (sIx items.size items.size hi - sIx items.size 0 lo)).toArray } })
  (hsz:items.size<=yaO):wpAny (model prog w) A (getItem (.ref t) (.ref f)) Q E s:=by
 have a:sizeOk (.seq ((items.toList.drop (sIx items.size 0 lo)).take (sIx items.size items.size hi - sIx items.size 0 lo)).toArray):=by
  show ((items.toList.drop (sIx items.size 0 lo)).take (sIx items.size items.size hi - sIx items.size 0 lo)).toArray.size<=yaO;rw [yaE,yaA,ybk,ybu];omega
 have o:sIx items.size items.size hi<=items.size:=sIx_le _ _ (yaj _) hi;obtain ⟨os,g,d,l⟩:=id hs;have c:s.TypeIs (.ref f) "slice":=⟨os,g,d⟩;unfold getItem
 try with_reducible refine ya1 ?_
 first | refine yac (yah ?_) | skip
 refine yac (wpAny_sequenceKey b.typeIs (by decide) ?_);refine yac (ybB (name:=ycM "__getitem__") b.typeIs ycZ
  (ybi ycZ b.typeIs entry_tuple_getitem ?_ (args_tuple_getitem _ _)))
 show wpAny _ _ (Builtin.Tuple.tupleItemsOf (.ref t) >>= _) _ _ s;refine yac (tupleItemsOf_ b ?_);refine yac (ydt c ?_);rw [if_pos (by decide)];refine yac (zd0 hs pl k ?_);have e:¬ ((((sIx items.size 0 lo:Nat):Int) == 0&&(1:Int) == 1&&(sIx items.size items.size hi - sIx items.size 0 lo) == items.size)=true):=by
  intro q;rw [ya9,ya9] at q;have n:((sIx items.size 0 lo:Nat):Int)=0:=eq_of_beq q.1.1;have p:sIx items.size items.size hi - sIx items.size 0 lo=items.size:=eq_of_beq q.2;exact hw ⟨by omega,by omega⟩
 show wpAny _ _ (if (((sIx items.size 0 lo:Nat):Int) == 0&&(1:Int) == 1&&(sIx items.size items.size hi - sIx items.size 0 lo) == items.size)=true then _ else _) _ _ s;rw [if_neg e,pick_gen]
 first
  | exact yac (m:=yc0 _) (ybQ (yah ⟨_,rfl,yah h⟩) a)
  | exact yac (m:=yc0 _) (ybQ (yac (yah (yah ⟨_,rfl,yah h⟩))) a)
  | exact yac (yac (m:=yc0 _) (ybQ (yah (yah ⟨_,rfl,yah h⟩)) a))
  | exact yac (yac (m:=yc0 _) (ybQ (yah ⟨_,rfl,yah h⟩) a))
end
end HT
namespace L2
open PySem PySem.Spec PyProof.Rows
abbrev TO:=St->Hp->(Option Int->Hp->Prop)->Prop
def PO (X:Cx) (e:Option Expr) (t:TO):Prop :=
 ∀ (pins:List (Addr×Obj)) (s:yag) (σ:St) (H:Hp) (Q:Option Int->Hp->Prop),Inv X pins σ H s->t σ H Q ->
  wpAny (model X.prog X.w) X.A (evalPart e X.env) (λu s'=>∃ o H',Inv X pins σ H' s'/\IsPart u o/\Q o H') X.xe s
def tNoPart:TO:=λ_ H Q=>Q none H
def tPart (t:TE):TO:=λσ H Q=>t σ H λx H1=>∃ i,x = .int i/\Q (some i) H1
section
variable {X:Cx} {e:Expr} {te:TE} {lo hi:Option Expr} {tl th:TO} {pos p2:Pos}
theorem zdx:PO X none tNoPart:=by
 intro pins s a H Q I h;rw [evalPart_none];exact yah ⟨none,H,I,.none,h⟩
theorem zbf (h:PE X e te):PO X (some e) (tPart te):=by
 intro pins s f H Q I hw;rw [evalPart_some];refine thn (h pins s f H _ I hw) λu j a => ?_;obtain ⟨x,c,g,b,d⟩:=a;obtain ⟨i,rfl,q⟩:=d;obtain ⟨t,rfl⟩:=b;exact ⟨some i,c,g,.int i t,q⟩
def SlR (X:Cx) (r:V->Option Int->Option Int->Hp->VK->Prop):Prop :=
 ∀ (pins:List (Addr×Obj)) (s:yag) (σ:St) (H:Hp) (x:V) (v vl vu:yae) (lo hi:Option Int) (sl:Addr) (Q:VK),Inv X pins σ H s->RelV x v->s.heap.IsSliceOf sl vl vu .none->IsPart vl lo->IsPart vu hi->r x lo hi H Q ->
  ∃ T id,ye5 (.type T) "__getitem__" = pure (some (.builtin id))/\s.TypeIs v T/\wpAny (model X.prog X.w) X.A (getItem v (.ref sl)) (EP X pins σ Q) X.xe s
def tSl (r:V->Option Int->Option Int->Hp->VK->Prop) (te:TE) (tl th:TO):TE:=λσ H Q=>te σ H λx H1=>tl σ H1 λl H2=>th σ H2 λu H3=>r x l u H3 Q
theorem zbq {r:V->Option Int->Option Int->Hp->VK->Prop} (E:SlR X r) (t:PE X e te) (B:PO X lo tl) (y:PO X hi th):PE X (.Subscript e (.Slice lo hi none p2) pos) (tSl r te tl th):=by
 intro pins s d H Q I h;refine Subscript_ (thn (t pins s d H _ I h) λv C c => ?_);obtain ⟨x,D,O,n,G⟩:=c;refine wpAny_Slice (thn (B pins C d D _ O G) λf L ⟨l,p,m,pl,j⟩=>thn (y pins L d p _ m j) λg a c => ?_);obtain ⟨u,i,z,J,M⟩:=c;rw [evalPart_none];refine yah ?_;have k:Inv X pins d i { a with heap:=a.heap.push { cls := .type "slice",data := .fields #[f,g,.none] } }:=z.kept (t':=a.toks) λb ob q=>yad _ q;obtain ⟨T,id,F,o,N⟩:=E pins { a with heap:=a.heap.push { cls := .type "slice",data := .fields #[f,g,.none] } } d i x v f g l u a.heap.objs.size Q k n (Heap.IsSliceOf.new ..) pl J M;show wpAny (model X.prog X.w) X.A (subscriptTail e (.Slice lo hi none p2) v (.ref a.heap.objs.size)) (EP X pins d Q) X.xe { a with heap:=a.heap.push { cls := .type "slice",data := .fields #[f,g,.none] } };exact tail_any (ops := [.ref a.heap.objs.size,v]) o F N (by with_unfolding_all rfl)
def cutV (xs:List V) (lo hi:Option Int):List V:=(xs.drop (HT.sIx xs.length 0 lo)).take (HT.sIx xs.length xs.length hi - HT.sIx xs.length 0 lo)
theorem zeV (xs:List V) (lo hi:Option Int):(cutV xs lo hi).length<=xs.length:=by
 unfold cutV;rw [yaA,ybk];omega
def rSlT (K:PySem.W.Frag):V->Option Int->Option Int->Hp->VK->Prop:=λx lo hi H Q=>∃ a xs,x = .ref a/\SqT K H a xs /\
 ¬ (HT.sIx xs.length 0 lo=0/\HT.sIx xs.length xs.length hi=xs.length)/\∀ p,H p=none->Q (.ref p) (upd H p (.tup (cutV xs lo hi)))
theorem sl_tup:SlR X (rSlT X.K):=by
 intro pins s k H x v j l lo hi m Q I i hs pl g h;obtain ⟨a,xs,rfl,f,hw,q⟩:=h;cases i;obtain ⟨d,r,e,hz⟩:=I.tuple f;have c:d.toArray.size=xs.length:=by rw [yaE];exact r.length.symm
 refine ⟨"tuple",_,PyProof.Rows.slot_tuple_getitem.lookup,e.typeIs,?_⟩;refine HT.getItem_tuple_cut e hs pl g (by rw [c];exact hw) ?_ (by rw [c];exact hz);rw [c];refine ⟨.ref s.heap.objs.size,_,I.laid (t':=s.toks) (o := .tup (cutV xs lo hi)) (λb ob q=>yad _ q) (yaj _) ?_,rfl,q _ (I.hok.fresh (yaj _))⟩;exact ⟨yaY (zeV xs lo hi) hz,_,(r.drop (HT.sIx xs.length 0 lo)).take (HT.sIx xs.length xs.length hi - HT.sIx xs.length 0 lo),IsTup.new _ _⟩
theorem Vals.nil_iff {xs:List V} {us:List yae} (r:Vals xs us):us = []↔xs = []:=by
 cases r with
 | nil=>simp
 | cons _ _=>simp
end
def ixN (n:Nat) (i:Int):Option Nat:=if 0<=i then (if i < n then some i.toNat else none) else if -(n:Int)<=i then some (i+n).toNat else none
def atI {α:Type} (xs:List α) (i:Int):Option α:=(ixN xs.length i).bind λj=>xs[j]?
theorem ixN_seq {n:Nat} {i:Int} {j:Nat} (h:ixN n i=some j):seqIndex? i n=some j/\j < n /\ -(n:Int)<=i/\i < n:=by
 unfold ixN at h;by_cases a:0<=i
 ·rw [if_pos a] at h;by_cases h1:i < n
  ·rw [if_pos h1] at h;have e:i.toNat=j:=yaz h;exact ⟨by rw [seqIndex_of a h1,e],by omega,by omega,h1⟩
  ·rw [if_neg h1] at h;cases h
 ·rw [if_neg a] at h;by_cases h1 : -(n:Int)<=i
  ·rw [if_pos h1] at h;have e:(i+n).toNat=j:=yaz h;exact ⟨by rw [seqIndex_neg (by omega) h1,e],by omega,h1,by omega⟩
  ·rw [if_neg h1] at h;cases h
theorem zg7 {α:Type} {xs:List α} {i:Int} {v:α} (h:atI xs i=some v):∃ j,seqIndex? i xs.length=some j/\xs[j]? = some v/\j < xs.length /\ -(xs.length:Int)<=i/\i < xs.length:=by
 unfold atI at h;cases e:ixN xs.length i with
 | none=>rw [e] at h;cases h
 | some j =>
  rw [e] at h;obtain ⟨h1,h2,b,a⟩:=ixN_seq e;exact ⟨j,h1,h,h2,b,a⟩
theorem zdE {α:Type} {xs:List α} {j:Nat} {v:α} (h:xs[j]? = some v):atI xs (j:Int)=some v:=by
 have a:j < xs.length:=(yav.mp h).1;have e:ixN xs.length (j:Int)=some j:=by
  unfold ixN;rw [if_pos (by omega),if_pos (by omega)];simp
 unfold atI;rw [e];exact h
theorem zhK {α:Type} (xs:List α) (v:α):atI (xs ++ [v]) (-1)=some v:=by
 have a:(xs ++ [v]).length=xs.length+1:=by simp
 have e:ixN (xs ++ [v]).length (-1)=some xs.length:=by
  unfold ixN;rw [a,if_neg (by decide),if_pos (by omega)]
  congr 1
  omega
 unfold atI;rw [e];show (xs ++ [v])[xs.length]? = some v;simp
def PlainIx (b:Expr):Prop:=∀ o i,subscripted b false o i=operate [o,i] (getItem o i)
def IxR (X:Cx) (r:R2):Prop :=
 ∀ (value slice:Expr) (pins:List (Addr×Obj)) (s:yag) (σ:St) (H:Hp) (x y:V) (v u:yae) (Q:VK),Inv X pins σ H s->RelV x v->RelV y u->r x y H Q ->
  subscripted slice false v u=operate [v,u] (getItem v u)->wpAny (model X.prog X.w) X.A (subscriptTail value slice v u) (EP X pins σ Q) X.xe s
def MtR (X:Cx) (id:String) (r:V->List V->Hp->VK->Prop):Prop :=
 ∀ (pins:List (Addr×Obj)) (s:yag) (σ:St) (H:Hp) (x:V) (xs:List V) (v:yae) (us:List yae) (Q:VK),Inv X pins σ H s->RelV x v->Vals xs us->r x xs H Q ->
  wpAny (model X.prog X.w) X.A (call (.builtin id) (v :: us)) (EP X pins σ Q) X.xe s
section
variable {X:Cx} {a b:Expr} {ta tb:TE} {pos:Pos}
theorem pe_ix {r:R2} (k:IxR X r) (j:PE X a ta) (l:PE X b tb) (hs:PlainIx b):PE X (.Subscript a b pos) (tOp r ta tb):=by
 intro pins s e H Q I h;exact Subscript_ (binT j l I h λv u f x y i g d c q=>k a b pins f e i x y v u Q g d c q (hs _ _))
def rIxL (K:PySem.W.Frag):R2:=λx y H Q=>∃ p xs i v,x = .ref p/\y = .int i/\SqL K H p xs/\atI xs i=some v/\Q v H
def rIxT (K:PySem.W.Frag):R2:=λx y H Q=>∃ p xs i v,x = .ref p/\y = .int i/\SqT K H p xs/\atI xs i=some v/\Q v H
def rIxS:R2:=λx y H Q=>∃ z i c,x = .str z/\y = .int i/\z.length<=yaO/\atI z.cps.toList i=some c/\Q (.str ⟨#[c]⟩) H
theorem ix_list:IxR X (rIxL X.K):=by
 intro a e pins s g H x y v u Q I C B h hs;obtain ⟨p,xs,i,z,rfl,rfl,m,n,q⟩:=h;cases C;obtain ⟨t,rfl⟩:=B;obtain ⟨b,r,pl,hz⟩:=I.list m;obtain ⟨j,h1,h2,F,l,A⟩:=zg7 n;obtain ⟨w,k,d⟩:=r.get h2;have o:=r.length;have E:=zeE;have fin:EP X pins g Q w s:=⟨z,H,I,d,q⟩;by_cases f:0<=i
 ·have c:i.toNat=j:=by
   rw [seqIndex_of f A] at h1;exact yaz h1
  exact item_listR pl.isList f (by omega) (by rw [c];simpa using k) fin hs
 ·have c:(i+(b.toArray.size:Int)).toNat=j:=by
   rw [seqIndex_neg (by omega) l] at h1;rw [yaE,<- o];exact yaz h1
  exact subscriptTail_builtinR (x:=w) pl.isList.typeIs slot_list_getitem.lookup
   (wpAny_getItem_list_neg (Q:=λr D=>r=w/\EP X pins g Q r D) pl.isList (by omega) (by rw [yaE] <;> omega) (by omega) (by rw [c];simpa using k) ⟨rfl,fin⟩) hs
theorem ix_tup:IxR X (rIxT X.K):=by
 intro a c pins s d H x y v u Q I m l h hs;obtain ⟨p,xs,i,z,rfl,rfl,e,g,q⟩:=h;cases m;obtain ⟨t,rfl⟩:=l;obtain ⟨f,r,pl,hz⟩:=I.tuple e;obtain ⟨j,h1,h2,D,A,B⟩:=zg7 g;obtain ⟨w,o,b⟩:=r.get h2;have k:=r.length;have C:=zeE;have fin:EP X pins d Q w s:=⟨z,H,I,b,q⟩;exact subscriptTail_builtinR (x:=w) pl.typeIs slot_tuple_getitem.lookup
  (getItem_tuple (j:=j) (Q:=λr n=>r=w/\EP X pins d Q r n) pl (by omega) (by omega) (by rw [yaE,<- k];exact h1) (by simpa using o) ⟨rfl,fin⟩) hs
theorem ix_str:IxR X rIxS:=by
 intro a b pins s n H x y v u Q I l k h hs;obtain ⟨z,i,c,rfl,rfl,hz,e,q⟩:=h;obtain ⟨t,rfl⟩:=l;obtain ⟨t',rfl⟩:=k;obtain ⟨j,h1,h2,o,d,g⟩:=zg7 e;have f:z.cps.toList.length=z.length:=by simp [Str.length]
 rw [f] at h1 d g;have m:=zeE;exact tail_any (typeIs_str s z t) slot_str_getitem.lookup (getItem_str (c:=c) (by
  have e1:decide (i < -(2 ^ 63:Int))=false:=decide_eq_false (by omega);have e2:decide (i ≥ 2 ^ 63)=false:=decide_eq_false (by omega);rw [e1,e2,Bool.or_false]) (by rw [h1];simpa using h2) ⟨.str ⟨#[c]⟩,H,I.tok _,⟨_,rfl⟩,q⟩) hs
theorem zig (a:List yae) (n j:Nat) (u:yae):ycc (·.setIfInBounds j u) { cls := .type "list",data := .seq a.toArray n } = { cls := .type "list",data := .seq (a.set j u).toArray n }:=by
 simp [ycc]
theorem Inv.lst {pins:List (Addr×Obj)} {b:St} {H:Hp} {s:yag} {p:Addr} {xs:List V} (I:Inv X pins b H s) (h:H p=some (.lst xs)) :
  ∃ (a:List yae) (n:Nat),Vals xs a/\s.heap.get? p=some { cls := .type "list",data := .seq a.toArray n }/\xs.length<=yaO:=by
 obtain ⟨z,a,n,r,e⟩:=I.hok p _ h;exact ⟨a,n,r,e,z⟩
theorem Inv.lstUpd {pins:List (Addr×Obj)} {d:St} {H:Hp} {s:yag} {p:Addr} {xs ys:List V} {a its':List yae} {n c:Nat} {f:Obj->Obj} (I:Inv X pins d H s) (h:H p=some (.lst xs))
  (i:s.heap.get? p=some { cls := .type "list",data := .seq a.toArray n }) (g:f { cls := .type "list",data := .seq a.toArray n } = { cls := .type "list",data := .seq its'.toArray c }) (r:Vals ys its') (hz:ys.length<=yaO) (t:Nat) :
  Inv X pins d (upd H p (.lst ys)) { s with heap:=s.heap.update p f,toks:=t }:=by
 have e:(s.heap.update p f).get? p=some { cls := .type "list",data := .seq its'.toArray c }:=by
  rw [ybR f i (by rw [g] <;> rfl),g]
 refine I.write (x:=p) (e:=p) (by rw [h];trivial) (.inl rfl) (λb u j q=>(yb8 _ _ (ybt j)).trans q) ⟨_,e⟩ ?_;exact ⟨hz,its',c,r,e⟩
def rSetL:V->V->V->Hp->(Hp->Prop)->Prop:=λo i v H Q=>∃ p xs k j,o = .ref p/\i = .int k/\H p=some (.lst xs)/\ixN xs.length k=some j/\Q (upd H p (.lst (xs.set j v)))
theorem set_list:PSet X rSetL:=by
 intro pins s B H o i v D F u Q I A y C h;obtain ⟨p,xs,k,j,rfl,rfl,l,z,q⟩:=h;cases A;obtain ⟨t,rfl⟩:=y;obtain ⟨a,n,r,c,hz⟩:=I.lst l;obtain ⟨h1,h2,m,e⟩:=ixN_seq z;have d:=r.length;have E:=zeE;have g:Inv X pins B (upd H p (.lst (xs.set j v))) { s with heap:=s.heap.update p (ycc (·.setIfInBounds j u)) } :=
  I.lstUpd l c (zig a n j u) (r.set C j) (by rw [List.length_set];exact hz) s.toks
 by_cases f:0<=k
 ·have b:k.toNat=j:=by
   rw [seqIndex_of f e] at h1;exact yaz h1
  exact PySem.W.ki_setAt c f (by omega) (by rw [yaE,<- d];exact e) (by rw [b];exact ⟨_,g,q⟩)
 ·have b:(k+(a.toArray.size:Int)).toNat=j:=by
   rw [seqIndex_neg (by omega) m] at h1;rw [yaE,<- d];exact yaz h1
  exact PySem.W.ki_setBack c (by omega) (by rw [yaE,<- d];exact m) (by omega) (by rw [b];exact ⟨_,g,q⟩)
theorem zgE (lo hi:Option Int) (n:Nat):(yeD lo hi none n).1=((HT.sIx n 0 lo:Nat):Int)/\(yeD lo hi none n).2.1=((HT.sIx n n hi:Nat):Int)/\(yeD lo hi none n).2.2=1:=by
 refine ⟨?_,?_,rfl⟩
 ·cases lo with
  | none=>simp [yeD,HT.sIx]
  | some i =>
   simp only [yeD,HT.sIx,Option.getD_none,show (1:Int) > 0 by decide,if_true];by_cases h:i < 0
   ·simp only [h,if_true] <;> omega
   ·simp only [h,if_false] <;> omega
 ·cases hi with
  | none=>simp [yeD,HT.sIx]
  | some i =>
   simp only [yeD,HT.sIx,Option.getD_none,show (1:Int) > 0 by decide,if_true];by_cases h:i < 0
   ·simp only [h,if_true] <;> omega
   ·simp only [h,if_false] <;> omega
theorem zf8 (a:List yae) (lo hi:Option Int):slicePick a.toArray lo hi none=((a.drop (HT.sIx a.length 0 lo)).take (HT.sIx a.length a.length hi - HT.sIx a.length 0 lo)).toArray:=by
 obtain ⟨h1,h2,b⟩:=zgE lo hi a.toArray.size;unfold slicePick;rw [h1,h2,b];simp only [sliceRange_one,pick_run,yaE] <;> rfl
def rSlL (K:PySem.W.Frag):V->Option Int->Option Int->Hp->VK->Prop:=λx lo hi H Q=>∃ a xs,x = .ref a/\SqL K H a xs/\∀ p,H p=none->Q (.ref p) (upd H p (.lst (cutV xs lo hi)))
theorem sl_list:SlR X (rSlL X.K):=by
 intro pins s k H x v j l lo hi m Q I i hs pl g h;obtain ⟨a,xs,rfl,f,q⟩:=h;cases i;obtain ⟨e,r,d,hz⟩:=I.list f;have c:=r.length;refine ⟨"list",_,slot_list_getitem.lookup,d.isList.typeIs,?_⟩;refine wpAny_getItem_list_slice d.isList hs pl g .none (by simp) ?_ (by rw [yaE] <;> omega);rw [zf8,<- c];refine ⟨.ref s.heap.objs.size,_,I.laid (t':=s.toks) (o := .lst (cutV xs lo hi)) (λb ob q=>yad _ q) (yaj _) ?_,rfl,q _ (I.hok.fresh (yaj _))⟩;exact ⟨yaY (zeV xs lo hi) hz,_,0,(r.drop (HT.sIx xs.length 0 lo)).take (HT.sIx xs.length xs.length hi - HT.sIx xs.length 0 lo),yan _ rfl⟩
def flatV:V->Bool
 | .non=>true
 | .bl _=>true
 | .int _=>true
 | .str _=>true
 | _=>false
noncomputable def eqV:V->V->Bool
 | .non,.non=>true
 | .bl a,.bl b=>a == b
 | .bl a,.int b=>(if a then 1 else 0) == b
 | .int a,.bl b=>a == (if b then 1 else 0)
 | .int a,.int b=>a == b
 | .str a,.str b=>a == b
 | _,_=>false
theorem zdo {A:yaM} {s:yag} {y x:V} {u v:yae} (e:RelV y u) (c:RelV x v) (f:flatV y=true) (d:flatV x=true):SeqAt.EqAt A s u v (eqV y x):=by
 cases y with
 | non =>
  cases e;cases x with
  | non=>cases c;exact ydu _
  | bl b=>cases c;exact SeqAt.EqAt.none_bool b
  | int b=>obtain ⟨t,rfl⟩:=c;exact SeqAt.EqAt.none_int b t
  | str b=>obtain ⟨t,rfl⟩:=c;exact SeqAt.EqAt.none_str b t
  | _=>exact absurd (show false=true from d) yaB
 | bl a =>
  cases e;cases x with
  | non=>cases c;exact SeqAt.EqAt.bool_none a
  | bl b=>cases c;exact SeqAt.EqAt.bool_bool a b
  | int b=>obtain ⟨t,rfl⟩:=c;exact SeqAt.EqAt.bool_int a b t
  | str b=>obtain ⟨t,rfl⟩:=c;exact SeqAt.EqAt.bool_str a b t
  | _=>exact absurd (show false=true from d) yaB
 | int a =>
  obtain ⟨t',rfl⟩:=e;cases x with
  | non=>cases c;exact SeqAt.EqAt.int_none a t'
  | bl b=>cases c;exact SeqAt.EqAt.int_bool a t' b
  | int b=>obtain ⟨t,rfl⟩:=c;exact SeqAt.EqAt.int_int a t' b t
  | str b=>obtain ⟨t,rfl⟩:=c;exact yfm a t' b t
  | _=>exact absurd (show false=true from d) yaB
 | str a =>
  obtain ⟨t',rfl⟩:=e;cases x with
  | non=>cases c;exact SeqAt.EqAt.str_none a t'
  | bl b=>cases c;exact SeqAt.EqAt.str_bool a t' b
  | int b=>obtain ⟨t,rfl⟩:=c;exact yfn a t' b t
  | str b=>obtain ⟨t,rfl⟩:=c;exact SeqAt.EqAt.str_str a t' b t
  | _=>exact absurd (show false=true from d) yaB
 | _=>exact absurd (show false=true from f) yaB
noncomputable def eqU (x:V) (u:yae):Bool:=match u with
 | .none=>eqV .non x
 | .bool b=>eqV (.bl b) x
 | .int i _=>eqV (.int i) x
 | .str z _=>eqV (.str z) x
 | _=>false
theorem eqU_of {x y:V} {u:yae} (r:RelV y u) (f:flatV y=true):eqU x u=eqV y x:=by
 cases y with
 | non=>cases r;rfl
 | bl b=>cases r;rfl
 | int i=>obtain ⟨t,rfl⟩:=r;rfl
 | str z=>obtain ⟨t,rfl⟩:=r;rfl
 | _=>exact absurd (show false=true from f) yaB
theorem zep {x:V}:∀ {xs:List V} {us:List yae},Vals xs us->xs.all flatV=true->us.any (eqU x)=xs.any λy=>eqV y x
 | _,_,.nil,_=>rfl
 | y :: xs,u :: us,.cons r t,f=>by
  rw [List.all_cons,ya9] at f;rw [ydH,ydH,eqU_of r f.1,zep t f.2]
theorem zde {A:yaM} {s:yag} {x:V} {v:yae} (c:RelV x v) (b:flatV x=true):∀ {xs:List V} {us:List yae},Vals xs us->xs.all flatV=true->∀ u∈us,SeqAt.EqAt A s u v (eqU x u)
 | _,_,.nil,_=>λu a=>by cases a
 | y :: xs,u :: us,.cons r t,f=>λd a=>by
  rw [List.all_cons,ya9] at f;rcases yaJ.mp a with rfl | a
  ·rw [eqU_of r f.1];exact zdo r c f.1 b
  ·exact zde c b t f.2 d a
def inV (x:V) (xs:List V):Bool:=xs.any λy=>eqV y x
def rIn (K:PySem.W.Frag) (neg:Bool):R2:=λx y H Q=>∃ p xs,y = .ref p/\(SqL K H p xs\/SqT K H p xs)/\flatV x=true/\xs.all flatV=true/\Q (.bl (if neg then !inV x xs else inV x xs)) H
theorem op_in_seq:OpR X (yba .In) (rIn X.K false):=by
 intro pins s f H x y v u Q I d e h;obtain ⟨p,xs,rfl,b,c,fs,q⟩:=h;cases e;rcases b with b | b
 ·obtain ⟨a,r,pl,hz⟩:=I.list b;refine SeqAt.in_listAt (eqU x) pl.isList (λw hw=>zde d c r fs w (by simpa using hw)) ⟨.bl _,H,I,rfl,?_⟩;rw [show a.toArray.any (eqU x)=a.any (eqU x) by simp,zep r fs];exact q
 ·obtain ⟨a,r,pl,hz⟩:=I.tuple b;refine SeqAt.in_tupleAt (eqU x) pl (λw hw=>zde d c r fs w (by simpa using hw)) ⟨.bl _,H,I,rfl,?_⟩;rw [show a.toArray.any (eqU x)=a.any (eqU x) by simp,zep r fs];exact q
theorem zgG:OpR X (yba .NotIn) (rIn X.K true):=by
 intro pins s f H x y v u Q I d e h;obtain ⟨p,xs,rfl,b,c,fs,q⟩:=h;cases e;rcases b with b | b
 ·obtain ⟨a,r,pl,hz⟩:=I.list b;refine SeqAt.notIn_listAt (eqU x) pl.isList (λw hw=>zde d c r fs w (by simpa using hw)) ⟨.bl _,H,I,rfl,?_⟩;rw [show a.toArray.any (eqU x)=a.any (eqU x) by simp,zep r fs];exact q
 ·obtain ⟨a,r,pl,hz⟩:=I.tuple b;refine SeqAt.notIn_tupleAt (eqU x) pl (λw hw=>zde d c r fs w (by simpa using hw)) ⟨.bl _,H,I,rfl,?_⟩;rw [show a.toArray.any (eqU x)=a.any (eqU x) by simp,zep r fs];exact q
theorem zgN:CallR X (.builtin "len") (λxs H Q=>∃ p ys,xs = [.ref p]/\(SqL X.K H p ys\/SqT X.K H p ys)/\Q (.int ys.length) H):=by
 intro pins s g H xs us Q I r h;obtain ⟨p,ys,rfl,b,q⟩:=h;obtain ⟨u,rfl,e⟩:=vals1 r;cases e;have f:=zeE;rcases b with b | b
 ·obtain ⟨d,c,pl,hz⟩:=I.list b;have a:=c.length;exact Calls.call_len_list pl.isList (by simp only [yaE] <;> omega) ⟨.int ys.length,H,I.tok _,⟨s.toks+1,by rw [yaE,a]⟩,q⟩
 ·obtain ⟨d,c,pl,hz⟩:=I.tuple b;have a:=c.length;exact len_tuple pl (by simp only [yaE] <;> omega) ⟨.int ys.length,H,I.tok _,⟨s.toks+1,by rw [yaE,a]⟩,q⟩
theorem zbM:CallR X (.builtin "len") (λxs H Q=>∃ z,xs = [.str z]/\z.length<=yaO/\Q (.int z.length) H):=by
 intro pins s b H xs us Q I r h;obtain ⟨z,rfl,hz,q⟩:=h;obtain ⟨u,rfl,t,rfl⟩:=vals1 r;have a:=zeE;exact len_str (by omega) ⟨.int z.length,H,I.tok _,⟨_,rfl⟩,q⟩
theorem CallR.or {f:yae} {r a:List V->Hp->VK->Prop} (h:CallR X f r) (h':CallR X f a):CallR X f (λxs H Q=>r xs H Q\/a xs H Q):=by
 intro pins s b H xs us Q I c q;rcases q with q | q
 ·exact h pins s b H xs us Q I c q
 ·exact h' pins s b H xs us Q I c q
theorem zgl:CallR X (.type "list") (λxs H Q=>∃ p ys,xs = [.ref p]/\(SqL X.K H p ys\/SqT X.K H p ys)/\∀ l,H l=none->Q (.ref l) (upd H l (.lst ys))):=by
 intro pins s t H xs us Q I r h;obtain ⟨p,ys,rfl,g,q⟩:=h;obtain ⟨u,rfl,m⟩:=vals1 r;cases m;have fin:∀ (a:List yae),Vals ys a->ys.length<=yaO->∀ (h':Heap) (d:Nat),(∀ b k,s.heap.get? b=some k->h'.get? b=some k) ->
   h'.get? s.heap.objs.size=some { cls := .type "list",dict:=none,data := .seq a.toArray d,slots := #[] }->EP X pins t Q (.ref s.heap.objs.size) { s with heap:=h' }:=λa c hz h' d f e =>
  ⟨.ref s.heap.objs.size,_,I.laid (t':=s.toks) f (yaj _) (show ObjOk X.prog X.w _ h' _ (.lst ys) from ⟨hz,a,d,c,e⟩),rfl,q _ (I.hok.fresh (yaj _))⟩
 rcases g with g | g
 ·obtain ⟨a,c,pl,hz⟩:=I.list g;have i:=c.length;obtain ⟨o,j,hc,n,hd⟩:=pl.isList;exact call_list_seq p (.inl rfl) j hc hd (λh' d f e=>fin a c hz h' d f e) (by simp only [yaE] <;> omega)
 ·obtain ⟨a,c,pl,hz⟩:=I.tuple g;have i:=c.length;obtain ⟨o,j,hc,n,hd⟩:=pl;exact call_list_seq p (.inr rfl) j hc hd (λh' d f e=>fin a c hz h' d f e) (by simp only [yaE] <;> omega)
theorem zfR:CallR X (.type "tuple") (λxs H Q=>∃ p ys,xs = [.ref p]/\((SqL X.K H p ys/\∀ l,H l=none->Q (.ref l) (upd H l (.tup ys)))\/(SqT X.K H p ys/\Q (.ref p) H))):=by
 intro pins s g H xs us Q I r h;obtain ⟨p,ys,rfl,h⟩:=h;obtain ⟨u,rfl,m⟩:=vals1 r;cases m;rcases h with ⟨d,q⟩ | ⟨d,q⟩
 ·obtain ⟨a,c,pl,hz⟩:=I.list d;have f:=c.length;refine call_tuple_list pl.isList (λh' j => ?_) (by simp only [yaE] <;> omega);have i:Inv X pins g H { s with heap:=h' }:=I.kept (t':=s.toks) j;have k:Inv X pins g (upd H h'.objs.size (.tup ys)) { s with heap:=h'.push { cls := .type "tuple",data := .seq a.toArray } } :=
   i.laid (t':=s.toks) (λb o e=>yad _ e) (yaj _) (show ObjOk X.prog X.w _ _ _ (.tup ys) from ⟨hz,a,c,IsTup.new _ _⟩)
  exact ⟨.ref h'.objs.size,_,k,rfl,q _ (i.hok.fresh (yaj _))⟩
 ·obtain ⟨a,c,pl,hz⟩:=I.tuple d;exact call_tuple_same pl ⟨.ref p,H,I,rfl,q⟩
def tyV (K:PySem.W.Frag) (T:String) (x:V) (H:Hp):Prop:=match x with
 | .str _=>T = "str"
 | .int _=>T = "int"
 | .ref p=>(T = "list"/\∃ xs,SqL K H p xs)\/(T = "tuple"/\∃ o,K.lookup p=some o/\o.cls = .type "tuple"/\o.dict=none) \/
   (T = "dict"/\((∃ kvs,H p=some (.dK kvs))\/∃ kvs,H p=some (.dT kvs)))\/(T = "set"/\∃ S n,H p=some (.set S n))
 | _=>False
theorem tyV_is {pins:List (Addr×Obj)} {h:St} {H:Hp} {s:yag} {T:String} {x:V} {v:yae} (I:Inv X pins h H s) (r:RelV x v) (d:tyV X.K T x H) :
  s.TypeIs v T/\∀ a,v = .ref a->∃ ob,s.heap.get? a=some ob/\ob.dict=none:=by
 cases x with
 | str z =>
  obtain ⟨t,rfl⟩:=r;cases (show T = "str" from d);exact ⟨typeIs_str s z t,λ_ e=>nomatch e⟩
 | int i =>
  obtain ⟨t,rfl⟩:=r;cases (show T = "int" from d);exact ⟨typeIs_int s i t,λ_ e=>nomatch e⟩
 | ref p =>
  cases r;rcases d with ⟨rfl,xs,f⟩ | ⟨rfl,o,b,hc,hd⟩ | ⟨rfl,b⟩ | ⟨rfl,S,n,b⟩
  ·obtain ⟨g,_,pl,_⟩:=I.list f;refine ⟨pl.isList.typeIs,λa e => ?_⟩;cases e;obtain ⟨o,n,e,c,hd,_⟩:=pl;exact ⟨o,e,hd⟩
  ·refine ⟨⟨o,I.kIn p o b,hc⟩,λa e => ?_⟩;cases e;exact ⟨o,I.kIn _ o b,hd⟩
  ·have z:∃ o,s.heap.get? p=some o/\o.ExactDict:=by
    rcases b with ⟨kvs,b⟩ | ⟨kvs,b⟩
    ·obtain ⟨_,_,_,_,o,_,_,e,ex,_⟩:=I.hok p _ b;exact ⟨o,e,ex⟩
    ·obtain ⟨_,_,_,_,o,_,_,e,ex,_⟩:=I.hok p _ b;exact ⟨o,e,ex⟩
   obtain ⟨o,e,ex⟩:=z;refine ⟨⟨o,e,ex.1⟩,λa e2 => ?_⟩;cases e2;exact ⟨o,e,ex.2.1⟩
  ·obtain ⟨o,_,_,_,e,ex,_⟩:=I.hok p _ b;refine ⟨⟨o,e,ex.1⟩,λa e2 => ?_⟩;cases e2;exact ⟨o,e,ex.2.1⟩
 | _=>exact ycF d
def tBM0 (K:PySem.W.Frag) (T:String) (r:V->List V->Hp->VK->Prop) (to:TE):TE:=λσ H Q=>to σ H λx H1=>tyV K T x H1/\r x [] H1 Q
def tBM (K:PySem.W.Frag) (T:String) (r:V->List V->Hp->VK->Prop) (to:TE) (t:TA):TE:=λσ H Q=>to σ H λx H1=>tyV K T x H1/\t σ H1 λxs H2=>r x xs H2 Q
variable {o e:Expr} {es:List Expr} {to:TE} {t:TA} {name:Str} {apos cpos:Pos} {T id:String} {r:V->List V->Hp->VK->Prop}
theorem pe_bm0 (k:PlainAttrs T) (c:Slot T name id) (e:typeOf (.builtin id)=pure (.type "method_descriptor")) (n:MtR X id r) (l:PE X o to)
  (b:ycv o name X.env (eval o X.env)=eval o X.env:=by rfl) (a:(apos.endLine == cpos.line)=true:=by rfl):PE X (.Call (.Attribute o name apos) [] [] cpos) (tBM0 X.K T r to):=by
 intro pins s f H Q I h;refine wpAny_Call_method0_late b a (thn (l pins s f H _ I h) λv p d => ?_);obtain ⟨x,q,i,g,m,j⟩:=d;obtain ⟨h1,h2⟩:=tyV_is i g m;exact ⟨T,id,k,c,e,h1,h2,ybK rfl (PySem.evalArgs_none (n pins p f q x [] v [] Q i g .nil j))⟩
theorem pe_bm (p:PlainAttrs T) (f:Slot T name id) (j:typeOf (.builtin id)=pure (.type "method_descriptor")) (A:MtR X id r) (q:PE X o to) (F:PA X (e :: es) t)
  (c:ycv o name X.env (eval o X.env)=eval o X.env:=by rfl)
  (d:((ydM cpos (yaZ (e :: es) X.env)).all (λx => !x.1)&&(backToKw cpos (yd4 [] X.env)).all (λx=>x.1.isSome)
   && decide ((e :: es).length+([]:List Keyword).length+(if ([]:List Keyword).isEmpty then 0 else 1) < 30))=true:=by rfl)
  (b:(apos.endLine == cpos.line)=true:=by rfl) (hs:yaZ (e :: es) X.env=(false,eval e X.env) :: yaZ es X.env:=by rfl) (a:(ydM cpos (yaZ es X.env)).any (·.1)=false:=by rfl) :
  PE X (.Call (.Attribute o name apos) (e :: es) [] cpos) (tBM X.K T r to t):=by
 intro pins s g H Q I h;refine wpAny_Call_method_late c d b rfl (thn (q pins s g H _ I h) λv B i => ?_);obtain ⟨x,C,m,k,u,D⟩:=i;obtain ⟨h1,h2⟩:=tyV_is m k u;refine ⟨T,id,p,f,j,h1,h2,?_⟩;have l:=F cpos pins B g C _ m D;rw [hs] at l ⊢;refine ybK (by show (false || (ydM cpos (yaZ es X.env)).any (·.1))=false;rw [a] <;> rfl) (ycW ?_);exact thn l (by rintro us E ⟨vs,z,y,n,G⟩;exact A pins E g z x vs v us Q y k n G)
end
def MtM (X:Cx) (id:String) (r:V->List V->Hp->VK->Prop):Prop :=
 ∀ (pins:List (Addr×Obj)) (s:yag) (σ:St) (H:Hp) (x:V) (xs:List V) (v:yae) (us:List yae) (Q:VK),Inv X pins σ H s->RelV x v->Vals xs us->r x xs H Q ->
  wpAny (model X.prog X.w) X.A (call (.builtin id) (v :: us)) (EP X pins σ Q) X.xe s
theorem Vals.one:∀ {x:V} {us:List yae},Vals [x] us->∃ u,us = [u]/\RelV x u:=by
 intro x us h;cases h with
 | cons r t =>
  cases t;exact ⟨_,rfl,r⟩
theorem Vals.zero:∀ {us:List yae},Vals [] us->us = []
 | _,.nil=>rfl
theorem Vals.reverse {xs:List V} {us:List yae} (h:Vals xs us):Vals xs.reverse us.reverse:=by
 induction h with
 | nil=>exact .nil
 | cons r t a=>rw [yeE,yeE];exact Vals.append a (.cons r .nil)
section
variable {X:Cx} {pins:List (Addr×Obj)} {σ:St} {H:Hp} {s:yag} {l b:Addr} {xs ys zs:List V}
theorem Inv.lset {a its':List yae} {n:Nat} {f:Array yae->Array yae} {t':Nat} (I:Inv X pins σ H s) (b:H l=some (.lst xs))
  (e:s.heap.get? l=some { cls := .type "list",data := .seq a.toArray n }) (h:f a.toArray=its'.toArray) (d:Vals ys its') (hz:ys.length<=yaO) :
  Inv X pins σ (upd H l (.lst ys)) { s with heap:=s.heap.update l (ycc f),toks:=t' }:=by
 have q:=PySem.IsL.update e f;rw [h] at q;refine I.write (x:=l) (e:=l) (by rw [b];exact trivial) (.inl rfl) (λi u g c=>(yb8 s.heap (ycc f) (ybt g)).trans c) ⟨_,q⟩ ?_;exact ⟨hz,its',_,d,q⟩
theorem Inv.lnew {a:List yae} {t':Nat} (I:Inv X pins σ H s) (b:Vals ys a) (hz:ys.length<=yaO) :
  Inv X pins σ (upd H s.heap.objs.size (.lst ys)) { s with heap:=s.heap.push { cls := .type "list",data := .seq a.toArray },toks:=t' } :=
 I.laid (λ_ _ q=>yad _ q) (yaj _) ⟨hz,a,0,b,yan _ rfl⟩
theorem Inv.fresh (I:Inv X pins σ H s):H s.heap.objs.size=none:=I.hok.fresh (yaj _)
theorem Inv.lstM (I:Inv X pins σ H s) (b:H l=some (.lst xs)):xs.length<=yaO/\∃ (a:List yae) (n:Nat),Vals xs a/\xs.length=a.length/\s.heap.get? l=some { cls := .type "list",data := .seq a.toArray n }:=by
 obtain ⟨z,a,n,r,e⟩:=I.hok l _ b;exact ⟨z,a,n,r,r.length,e⟩
end
section
variable {X:Cx}
def rAppend:V->List V->Hp->VK->Prop:=λx vs H Q=>∃ l xs y,x = .ref l/\vs = [y]/\H l=some (.lst xs)/\xs.length < yaO/\Q .non (upd H l (.lst (xs ++ [y])))
theorem zbG:MtM X "list.append" rAppend:=by
 intro pins s i H x vs v us Q I d f h;obtain ⟨l,xs,y,rfl,rfl,b,hz,q⟩:=h;cases d;obtain ⟨u,rfl,c⟩:=f.one;obtain ⟨z,a,n,r,g,e⟩:=I.lstM b;refine call_meets F.slot_list_append ⟨_,e,rfl⟩ F.entry_list_append (F.args_list_append_2 _ _) (PySem.list_append l a.toArray n u (by rw [yaE];omega)) ⟨e,?_⟩;refine ⟨.non,_,I.lset (its':=a ++ [u]) b e (by simp) (r.append (.cons c .nil)) ?_,rfl,q⟩;rw [yaK,List.length_singleton];omega
def rReverse:V->List V->Hp->VK->Prop:=λx vs H Q=>∃ l xs,x = .ref l/\vs = []/\H l=some (.lst xs)/\Q .non (upd H l (.lst xs.reverse))
theorem ziq:MtM X "list.reverse" rReverse:=by
 intro pins s i H x vs v us Q I d f h;obtain ⟨l,xs,rfl,rfl,c,q⟩:=h;cases d;have b:=f.zero;subst b;obtain ⟨z,a,n,r,g,e⟩:=I.lstM c;refine call_meets F.slot_list_reverse ⟨_,e,rfl⟩ F.entry_list_reverse (F.args_list_reverse_1 _) (AutoSeq1.list_reverse_list_0 l a.toArray n (by rw [yaE];omega)) ⟨e,?_⟩;refine ⟨.non,_,I.lset (its':=a.reverse) c e (by simp) r.reverse ?_,rfl,q⟩;rw [yd5];omega
def rClear:V->List V->Hp->VK->Prop:=λx vs H Q=>∃ l xs,x = .ref l/\vs = []/\H l=some (.lst xs)/\Q .non (upd H l (.lst []))
theorem zee:MtM X "list.clear" rClear:=by
 intro pins s i H x vs v us Q I d f h;obtain ⟨l,xs,rfl,rfl,c,q⟩:=h;cases d;have a:=f.zero;subst a;obtain ⟨z,b,n,r,g,e⟩:=I.lstM c;refine call_meets F.slot_list_clear ⟨_,e,rfl⟩ F.entry_list_clear (F.args_list_clear_1 _) (AutoSeq1.list_clear_list_0 l b.toArray n (by rw [yaE];omega)) ⟨e,?_⟩;exact ⟨.non,_,I.lset (its' := []) (ys := []) c e rfl .nil (yaW _),rfl,q⟩
def rCat:R2:=λx y H Q=>∃ l b xs zs,x = .ref l/\y = .ref b/\H l=some (.lst xs)/\H b=some (.lst zs)/\xs.length+zs.length<=yaO/\∀ p,H p=none->Q (.ref p) (upd H p (.lst (xs++zs)))
theorem op_cat:OpR X (yd0 .Add) rCat:=by
 intro pins s p H x y v u Q I k j h;obtain ⟨l,b,xs,m,rfl,rfl,d,i,hz,q⟩:=h;cases k;cases j;obtain ⟨z,c,n,r,o,e⟩:=I.lstM d;obtain ⟨t,a,A,g,f,e2⟩:=I.lstM i;refine PySem.P.add_list e e2 ?_ (by rw [yaE,yaE];omega);have ea:c.toArray++a.toArray=(c++a).toArray:=by simp
 rw [ea];exact ⟨.ref _,_,I.lnew (t':=s.toks) (r.append g) (by rw [yaK];omega),rfl,q _ I.fresh⟩
theorem len_rep {α:Type} (xs:List α) (k:Nat):(ybZ k xs).flatten.length=k*xs.length:=by
 induction k with
 | zero=>simp
 | succ k a=>rw [yd6,yfC,yaK,a,Nat.succ_mul,yfr]
end
section
variable {prog:yas} {w:yaS} {A:yaM} {E:yae->yag->Prop} {s:yag}
end
section
variable {X:Cx}
end
section
variable {κ:Type} [DecidableEq κ]
def valV (kvs:List (κ×V)) (k:κ):Option V:=(kvs.find? λkv=>decide (kv.1=k)).map (·.2)
def putK (kvs:List (κ×V)) (k:κ) (v:V):List (κ×V) :=
 if (kvs.any λkv=>decide (kv.1=k))=true then kvs.map (λkv=>if kv.1=k then (kv.1,v) else kv) else kvs ++ [(k,v)]
def dropK (kvs:List (κ×V)) (k:κ):List (κ×V):=kvs.filter λkv=>decide (kv.1≠k)
theorem zaT {p:κ×V} {r:List (κ×V)} {k:κ} (e:p.1=k):valV (p :: r) k=some p.2:=by simp [valV,ybw,e]
theorem zaS {p:κ×V} {r:List (κ×V)} {k:κ} (e:¬ p.1=k):valV (p :: r) k=valV r k:=by simp [valV,ybw,e]
theorem zbN (k:κ):∀ kvs:List (κ×V),(kvs.any λkv=>decide (kv.1=k))=(valV kvs k).isSome
 | []=>rfl
 | p :: r=>by
  rw [ydH];by_cases e:p.1=k
  ·simp only [zaT e,decide_eq_true e,Bool.true_or,Option.isSome_some]
  ·rw [zaS e,decide_eq_false e,Bool.false_or];exact zbN k r
theorem zh5 (k j:κ) (y:V):∀ kvs:List (κ×V),valV (kvs.map λkv=>if kv.1=k then (kv.1,y) else kv) j=(valV kvs j).map λx=>if j=k then y else x
 | []=>rfl
 | p :: r=>by
  have a:=zh5 k j y r;rw [yaw];by_cases h:p.1=k
  ·rw [if_pos h];by_cases e:p.1=j
   ·rw [zaT (p:=(p.1,y)) e,zaT e,yej,if_pos (e.symm.trans h)]
   ·rw [zaS (p:=(p.1,y)) e,zaS e,a]
  ·rw [if_neg h];by_cases e:p.1=j
   ·rw [zaT (p:=p) e,zaT e,yej,if_neg (λz=>h (e.trans z))]
   ·rw [zaS (p:=p) e,zaS e,a]
theorem zgw (k j:κ) (y:V):∀ kvs:List (κ×V),valV kvs k=none->valV (kvs ++ [(k,y)]) j=if j=k then some y else valV kvs j
 | [],_=>by
  by_cases e:k=j
  ·rw [if_pos e.symm];exact zaT (p:=(k,y)) e
  ·rw [if_neg (λz=>e z.symm)];exact zaS (p:=(k,y)) e
 | p :: r,hn=>by
  rw [List.cons_append];have a:¬ p.1=k:=λz=>by rw [zaT z] at hn;cases hn
  rw [zaS a] at hn;have b:=zgw k j y r hn;by_cases e:p.1=j
  ·rw [zaT e,zaT e,if_neg (λz=>a (e.trans z))]
  ·rw [zaS e,zaS e,b]
theorem zh2 (kvs:List (κ×V)) (k j:κ) (y:V):valV (putK kvs k y) j=if j=k then some y else valV kvs j:=by
 unfold putK;by_cases a:(kvs.any λkv=>decide (kv.1=k))=true
 ·rw [if_pos a,zh5];rw [zbN] at a;by_cases e:j=k
  ·obtain ⟨x,b⟩:=Option.isSome_iff_exists.mp a;rw [if_pos e,e,b,yej,if_pos rfl]
  ·rw [if_neg e];cases valV kvs j with
   | none=>rfl
   | some x=>rw [yej,if_neg e]
 ·rw [if_neg a];refine zgw k j y kvs ?_;rw [zbN] at a;cases q:valV kvs k with
  | none=>rfl
  | some x=>rw [q] at a;exact (a rfl).elim
theorem zcl (kvs:List (κ×V)) (k:κ) (v:V):(putK kvs k v).length<=kvs.length+1:=by
 unfold putK;split
 ·rw [yab];omega
 ·rw [yaK,ya4,yek];omega
theorem zd6 {kvs:List (κ×V)} {k:κ} (v:V) (h:valV kvs k=none):putK kvs k v=kvs ++ [(k,v)]:=by
 unfold putK;rw [zbN,h];exact if_neg (by decide)
theorem RelO.isSome_eq {o:Option V} {u:Option yae} (r:RelO o u):o.isSome=u.isSome:=by
 cases o with
 | none=>cases u with
  | none=>rfl
  | some _=>exact (show False from r).elim
 | some _=>cases u with
  | none=>exact (show False from r).elim
  | some _=>rfl
theorem RelO.getD {o:Option V} {u:Option yae} {d:V} {d':yae} (r:RelO o u) (a:RelV d d'):RelV (o.getD d) (u.getD d'):=by
 cases o with
 | none=>cases u with
  | none=>exact a
  | some _=>exact (show False from r).elim
 | some _=>cases u with
  | none=>exact (show False from r).elim
  | some _=>exact r
theorem KV.val {kvs:List (κ×V)} {vs:List (κ×yae)} (r:KV kvs vs) (k:κ):RelO (valV kvs k) (yel vs k):=by
 unfold KV at r
 induction r with
 | nil=>exact ybA
 | @cons p q ps qs h t ih =>
  obtain ⟨h1,h2⟩:=h;by_cases e:p.1=k
  ·have a:q.1=k:=h1.symm.trans e;have b:yel (q :: qs) k=some q.2:=by simp [yel,ybw,a]
   rw [zaT e,b];exact h2
  ·have a:¬ q.1=k:=λz=>e (h1.trans z);have b:yel (q :: qs) k=yel qs k:=by simp [yel,ybw,a]
   rw [zaS e,b];exact ih
theorem KV.any {kvs:List (κ×V)} {vs:List (κ×yae)} (r:KV kvs vs) (k:κ):(kvs.any λkv=>decide (kv.1=k))=vs.any λkv=>decide (kv.1=k):=by
 unfold KV at r
 induction r with
 | nil=>rfl
 | cons h t a=>rw [ydH,ydH,a,h.1]
theorem KV.repl {kvs:List (κ×V)} {vs:List (κ×yae)} (r:KV kvs vs) (k:κ) {y:V} {u:yae} (a:RelV y u) :
  KV (kvs.map λkv=>if kv.1=k then (kv.1,y) else kv) (vs.map λkv=>if kv.1=k then (kv.1,u) else kv):=by
 unfold KV at r ⊢
 induction r with
 | nil=>exact .nil
 | @cons p q ps qs h t ih =>
  rw [yaw,yaw];refine .cons ?_ ih;obtain ⟨h1,h2⟩:=h;by_cases e:p.1=k
  ·rw [if_pos e,if_pos (h1.symm.trans e)];exact ⟨h1,a⟩
  ·rw [if_neg e,if_neg (λz=>e (h1.trans z))];exact ⟨h1,h2⟩
theorem KV.put {kvs:List (κ×V)} {vs:List (κ×yae)} (r:KV kvs vs) (k:κ) {y:V} {u:yae} (a:RelV y u):KV (putK kvs k y) (stored vs k u):=by
 unfold putK stored;rw [r.any k];by_cases e:(vs.any λkv=>decide (kv.1=k))=true
 ·rw [if_pos e,if_pos e];exact r.repl k a
 ·rw [if_neg e,if_neg e];exact Paired.snoc r ⟨rfl,a⟩
theorem KV.drop {kvs:List (κ×V)} {vs:List (κ×yae)} (r:KV kvs vs) (k:κ):KV (dropK kvs k) (without vs k):=by
 unfold KV at r ⊢;unfold dropK without
 induction r with
 | nil=>exact .nil
 | @cons p q ps qs h t ih =>
  obtain ⟨h1,h2⟩:=h;rw [List.filter_cons,List.filter_cons];by_cases e:p.1=k
  ·have a:¬ decide (p.1≠k)=true:=by simp [e]
   have b:¬ decide (q.1≠k)=true:=by simp [h1.symm.trans e]
   rw [if_neg a,if_neg b];exact ih
  ·have c:¬ q.1=k:=λz=>e (h1.trans z);have a:decide (p.1≠k)=true:=by simp [e]
   have b:decide (q.1≠k)=true:=by simp [c]
   rw [if_pos a,if_pos b];exact .cons ⟨h1,h2⟩ ih
theorem KV.length {kvs:List (κ×V)} {vs:List (κ×yae)} (r:KV kvs vs):kvs.length=vs.length:=yaC r
theorem dropK_le (kvs:List (κ×V)) (k:κ):(dropK kvs k).length<=kvs.length:=List.length_filter_le _ _
end
theorem kV_is {P:yas} {w:yaS} {k:Key} {u:yae} (r:RelV (kV k) u):(zan P w).is k u=true:=by
 cases k with
 | inl i=>obtain ⟨t,e⟩:=(show ∃ t,u=ycI i t from r);subst e;exact zg3 P w i t
 | inr x=>obtain ⟨t,e⟩:=(show ∃ t,u=ydj x t from r);subst e;exact zeu P w x t
theorem kV_inj {a b:Key} (e:kV a=kV b):a=b:=by
 cases a with
 | inl i=>cases b with
  | inl j=>have c:V.int i=V.int j:=e;injection c with c;rw [c]
  | inr y=>exact nomatch (show V.int i=V.str y from e)
 | inr x=>cases b with
  | inl j=>exact nomatch (show V.str x=V.int j from e)
  | inr y=>have c:V.str x=V.str y:=e;injection c with c;rw [c]
theorem kVs_inj:∀ {a b:List Key},a.map kV=b.map kV->a=b
 | [],[],_=>rfl
 | [],_ :: _,e=>by simp at e
 | _ :: _,[],e=>by simp at e
 | x :: xs,y :: ys,e=>by
  rw [yaw,yaw] at e;injection e with e1 e2;rw [kV_inj e1,kVs_inj e2]
theorem zgg {P:yas} {w:yaS}:∀ {ks:List Key} {us:List yae},Vals (ks.map kV) us->ItemsAre (zan P w) ks us
 | [],_,r=>by rw [ydv] at r;cases r;exact .nil
 | k :: ks,_,r=>by
  rw [yaw] at r;cases r with
  | cons h t=>exact .cons (kV_is h) (zgg t)
abbrev KT (H:Hp):List (List Key×V)->List (List Key×Addr×yae)->Prop:=Paired λp q=>p.1=q.1/\H q.2.1=some (.tup (p.1.map kV))/\RelV p.2 q.2.2
theorem KT.val {H:Hp} {kvs:List (List Key×V)} {xs:List (List Key×Addr×yae)} (r:KT H kvs xs) (k:List Key):RelO (valV kvs k) ((atKey xs k).map (·.2)):=by
 induction r with
 | nil=>exact ybA
 | @cons p q ps qs h t ih =>
  obtain ⟨h1,_,h2⟩:=h;by_cases e:p.1=k
  ·have a:q.1=k:=h1.symm.trans e;have b:atKey (q :: qs) k=some q.2:=by simp [atKey,ybw,a]
   rw [zaT e,b];exact h2
  ·have a:¬ q.1=k:=λz=>e (h1.trans z);have b:atKey (q :: qs) k=atKey qs k:=by simp [atKey,ybw,a]
   rw [zaS e,b];exact ih
theorem KT.repl {H:Hp} {kvs:List (List Key×V)} {xs:List (List Key×Addr×yae)} (r:KT H kvs xs) (k:List Key) {y:V} {u:yae} (a:RelV y u) :
  KT H (kvs.map λkv=>if kv.1=k then (kv.1,y) else kv) (xs.map (putAt k u)):=by
 induction r with
 | nil=>exact .nil
 | @cons p q ps qs h t ih =>
  rw [yaw,yaw];refine .cons ?_ ih;obtain ⟨h1,h2,b⟩:=h;unfold putAt;by_cases e:p.1=k
  ·rw [if_pos e,if_pos (h1.symm.trans e)];exact ⟨h1,h2,a⟩
  ·rw [if_neg e,if_neg (λz=>e (h1.trans z))];exact ⟨h1,h2,b⟩
theorem KT.put {H:Hp} {kvs:List (List Key×V)} {xs:List (List Key×Addr×yae)} (r:KT H kvs xs) (k:List Key) {b:Addr} {y:V} {u:yae} (c:H b=some (.tup (k.map kV))) (a:RelV y u) :
  KT H (putK kvs k y) (storedH xs k b u):=by
 have e:(kvs.any λkv=>decide (kv.1=k))=(atKey xs k).isSome:=by
  rw [zbN,(r.val k).isSome_eq,yfD]
 unfold putK storedH;rw [e];by_cases q:(atKey xs k).isSome=true
 ·rw [if_pos q,if_pos q];exact r.repl k a
 ·rw [if_neg q,if_neg q];exact Paired.snoc r ⟨rfl,c,a⟩
theorem KT.keeps {H H':Hp} {kvs:List (List Key×V)} {xs:List (List Key×Addr×yae)} (r:KT H kvs xs) (a:∀ b ys,H b=some (.tup ys)->H' b=some (.tup ys)):KT H' kvs xs :=
 Paired.mapP r λ_ _ z=>⟨z.1,a _ _ z.2.1,z.2.2⟩
section
variable {P:yas} {w:yaS} {H:Hp} {h:Heap} {a:Addr}
theorem rd_of {u:HO} (ok:HOk P w H h) (e:Rd H a u):ObjOk P w H h a u:=e.ok ok
theorem dk_rd {kvs:List (Key×V)} (ok:HOk P w H h) (e:Rd H a (.dK kvs)):kvs.length<=yaO/\(a == ybz)=false/\∃ vs,KV kvs vs/\h.DictOf (zan P w) a vs :=
 show ObjOk P w H h a (.dK kvs) from rd_of ok e
theorem dk_of {kvs:List (Key×V)} (ok:HOk P w H h) (e:H a=some (.dK kvs)):kvs.length<=yaO/\(a == ybz)=false/\∃ vs,KV kvs vs/\h.DictOf (zan P w) a vs:=dk_rd ok (.inl e)
theorem zdq {ks:List Key} (ok:HOk P w H h) (e:H a=some (.tup (ks.map kV))):(ycJ (zan P w)).is h ks a:=by
 obtain ⟨_,b,r,o,h1,h2,n,c⟩:=(show ObjOk P w H h a (.tup (ks.map kV)) from ok a _ e);exact ⟨o,b.toArray,n,h1,h2,c,by simpa using zgg r⟩
theorem dt_rd {kvs:List (List Key×V)} (ok:HOk P w H h) (e:Rd H a (.dT kvs)):kvs.length<=yaO/\(a == ybz)=false /\
  ∃ xs,KT H kvs xs/\h.DictOfH (ycJ (zan P w)) a xs:=by
 obtain ⟨z,y,xs,r,o,es,ep,h1,h2,f,c,d⟩:=(show ObjOk P w H h a (.dT kvs) from rd_of ok e);refine ⟨z,y,xs,r,o,es,ep,h1,h2,f,c,λx b => ?_,d⟩;have all:∀ {l:List (List Key×V)} {m:List (List Key×Addr×yae)},KT H l m->∀ x∈m,(ycJ (zan P w)).is h x.1 x.2.1:=by
  intro l m q
  induction q with
  | nil=>intro x b;exact nomatch b
  | @cons p q ps qs hq t ih =>
   intro x b;rcases yaJ.mp b with e | b
   ·subst e;exact zdq ok (by rw [<- hq.1];exact hq.2.1)
   ·exact ih x b
 exact all r x b
theorem dt_of {kvs:List (List Key×V)} (ok:HOk P w H h) (e:H a=some (.dT kvs)):kvs.length<=yaO/\(a == ybz)=false /\
  ∃ xs,KT H kvs xs/\h.DictOfH (ycJ (zan P w)) a xs:=dt_rd ok (.inl e)
end
def DGet (H:Hp) (a:Addr) (y:V) (r:Option V):Prop :=
 (∃ kvs k,Rd H a (.dK kvs)/\y=kV k/\r=valV kvs k)\/∃ kvs k b,Rd H a (.dT kvs)/\y = .ref b/\H b=some (.tup (k.map kV))/\r=valV kvs k
def DPut (H:Hp) (a:Addr) (y v:V) (H':Hp):Prop :=
 (∃ kvs k,H a=some (.dK kvs)/\y=kV k/\kvs.length < yaO/\H'=upd H a (.dK (putK kvs k v))) \/
 ∃ kvs k b,H a=some (.dT kvs)/\y = .ref b/\H b=some (.tup (k.map kV))/\kvs.length < yaO/\H'=upd H a (.dT (putK kvs k v))
theorem DGet.k {H:Hp} {a:Addr} {kvs:List (Key×V)} {k:Key} (e:H a=some (.dK kvs)):DGet H a (kV k) (valV kvs k) := .inl ⟨kvs,k,.inl e,rfl,rfl⟩
theorem DPut.k {H:Hp} {a:Addr} {kvs:List (Key×V)} {k:Key} {v:V} (e:H a=some (.dK kvs)) (b:kvs.length < yaO):DPut H a (kV k) v (upd H a (.dK (putK kvs k v))) := .inl ⟨kvs,k,e,rfl,b,rfl⟩
theorem DPut.t {H:Hp} {a b:Addr} {kvs:List (List Key×V)} {k:List Key} {v:V} (e:H a=some (.dT kvs)) (c:H b=some (.tup (k.map kV))) (d:kvs.length < yaO) :
  DPut H a (.ref b) v (upd H a (.dT (putK kvs k v))) := .inr ⟨kvs,k,b,e,rfl,c,d,rfl⟩
section
variable {X:Cx} {pins:List (Addr×Obj)} {σ:St} {H:Hp} {s:yag} {a:Addr} {y v:V} {u r:yae} {o:Option V} {A:yaM} {E:yae->yag->Prop}
theorem Inv.big (I:Inv X pins σ H s):ybz < s.heap.objs.size:=by
 have h:yaV < s.heap.objs.size:=(I.mod.glob.keeps I.bk).lt;exact Nat.lt_trans (by decide) h
theorem d_getItem {Q:yae->yag->Prop} (r:A.units+1 < cLine) (I:Inv X pins σ H s) (g:DGet H a y (some v)) (m:RelV y u) (h:∀ f n,Inv X pins σ H n->RelV v f->Q f n) :
  wpAny (model X.prog X.w) A (getItem (.ref a) u) Q E s:=by
 rcases g with ⟨kvs,k,e,j,l⟩ | ⟨kvs,k,b,e,j,q,l⟩
 ·subst j;obtain ⟨z,hd,vs,d,dd⟩:=dk_rd I.hok e;obtain ⟨f,hw,c⟩:=RelO.some_of (v:=v) (o:=yel vs k) (by rw [l];exact d.val k);exact wpAny_getItem_of (kV_is m) dd.mapOf hw (h f _ (I.tok _) c)
 ·subst j;cases (show u=yaq b from m);obtain ⟨z,hd,xs,d,dd⟩:=dt_rd I.hok e;obtain ⟨f,hw,c⟩:=RelO.some_of (v:=v) (o:=(atKey xs k).map (·.2)) (by rw [l];exact d.val k);obtain ⟨p,t,i⟩:=Option.map_eq_some_iff.mp hw;refine wpAny_getItem_heap (ycp r) (zdq I.hok q) dd t ?_;rw [i];exact h f _ (I.tok _) c
theorem d_in {Q:yae->yag->Prop} (m:A.units+1 < cLine) (I:Inv X pins σ H s) (g:DGet H a y o) (f:RelV y u) (h:∀ i,Inv X pins σ H i->Q (.bool o.isSome) i) :
  wpAny (model X.prog X.w) A (yba .In u (.ref a)) Q E s:=by
 rcases g with ⟨kvs,k,e,d,l⟩ | ⟨kvs,k,b,e,d,j,l⟩
 ·subst d;obtain ⟨z,hd,vs,c,dd⟩:=dk_rd I.hok e;refine wpAny_in_of (kV_is f) hd dd.mapOf ?_;rw [<- (c.val k).isSome_eq,<- l];exact h _ (I.tok _)
 ·subst d;cases (show u=yaq b from f);obtain ⟨z,hd,xs,c,dd⟩:=dt_rd I.hok e;refine wpAny_in_heap (ycp m) (zdq I.hok j) hd dd ?_;have q:=(c.val k).isSome_eq;rw [yfD] at q;rw [<- q,<- l];exact h _ (I.tok _)
theorem d_notIn {Q:yae->yag->Prop} (m:A.units+1 < cLine) (I:Inv X pins σ H s) (g:DGet H a y o) (f:RelV y u) (h:∀ i,Inv X pins σ H i->Q (.bool (!o.isSome)) i) :
  wpAny (model X.prog X.w) A (yba .NotIn u (.ref a)) Q E s:=by
 rcases g with ⟨kvs,k,e,d,l⟩ | ⟨kvs,k,b,e,d,j,l⟩
 ·subst d;obtain ⟨z,hd,vs,c,dd⟩:=dk_rd I.hok e;refine wpAny_notIn_of (kV_is f) hd dd.mapOf ?_;rw [<- (c.val k).isSome_eq,<- l];exact h _ (I.tok _)
 ·subst d;cases (show u=yaq b from f);obtain ⟨z,hd,xs,c,dd⟩:=dt_rd I.hok e;refine wpAny_notIn_heap (ycp m) (zdq I.hok j) hd dd ?_;have q:=(c.val k).isSome_eq;rw [yfD] at q;rw [<- q,<- l];exact h _ (I.tok _)
theorem zdt {h':Heap} {t':Nat} {ob:HO} (I:Inv X pins σ H s) (d:Mut (H a)) (hs:Heap.SameBut a s.heap h') (c:∃ q,h'.get? a=some q) (new:ObjOk X.prog X.w (upd H a ob) h' a ob) :
  Inv X pins σ (upd H a ob) { s with heap:=h',toks:=t' } :=
 I.write (x:=a) (e:=a) d (.inl rfl) (λb q f z=>(hs.2 b f).trans z) c new
theorem zfC {P:yas} {w:yaS} {H':Hp} {h':Heap} {kvs:List (Key×V)} {vs:List (Key×yae)} (z:kvs.length<=yaO) (hd:(a == ybz)=false) (b:KV kvs vs) (dd:h'.DictOf (zan P w) a vs) :
  ObjOk P w H' h' a (.dK kvs):=⟨z,hd,vs,b,dd⟩
theorem d_setItem {H':Hp} {Q:Unit->yag->Prop} (G:A.units+1 < cLine) (I:Inv X pins σ H s) (g:DPut H a y v H') (p:RelV y u) (C:RelV v r) (h:∀ B,Inv X pins σ H' B->Q () B) :
  wpAny (model X.prog X.w) A (setItem (.ref a) u r) Q E s:=by
 rcases g with ⟨kvs,k,e,n,l,m⟩ | ⟨kvs,k,b,e,n,o,l,m⟩
 ·subst n m;obtain ⟨z,hd,vs,d,dd⟩:=dk_of I.hok e;have hz:vs.length<=yaO:=by rw [<- d.length];exact z
  have j:(putK kvs k v).length<=yaO:=by have:=zcl kvs k v;omega
  refine wpAny_setItem_pairs (hsz:=hz) (kV_is p) dd λh' f hs=>h _ ?_;have F:∃ q,h'.get? a=some q:=let ⟨q,_,_,i,_⟩:=f;⟨q,i⟩;exact zdt I (by rw [e];exact ybA) hs F (zfC j hd (d.put k C) f)
 ·subst n m;cases (show u=yaq b from p);obtain ⟨z,hd,xs,d,dd⟩:=dt_of I.hok e;have hz:xs.length<=yaO:=by rw [<- yaC d];exact z
  have j:(putK kvs k v).length<=yaO:=by have:=zcl kvs k v;omega
  refine wpAny_setItem_heap (hsz:=hz) (ycp G) (zdq I.hok o) dd λh' f hs=>h _ ?_;obtain ⟨q,es,ep,i,h2,L,D,_,J⟩:=f;refine zdt I (by rw [e];exact ybA) hs ⟨q,i⟩ ⟨j,hd,_,(d.put k o C).keeps λc ys t => ?_,q,es,ep,i,h2,L,D,J⟩;rw [zaf (ne_of t e (λz=>nomatch z))];exact t
end
section
variable {X:Cx} {pins:List (Addr×Obj)} {σ:St} {H:Hp} {s:yag} {a:Addr} {kvs:List (Key×V)} {k:Key} {u:yae} {A:yaM} {E:yae->yag->Prop}
theorem d_pop {v:V} {b:List yae} {Q:yae->yag->Prop} (I:Inv X pins σ H s) (e:H a=some (.dK kvs)) (j:RelV (kV k) u) (l:valV kvs k=some v) (m:b = []\/∃ x,b = [x])
  (h:∀ d n,Inv X pins σ (upd H a (.dK (dropK kvs k))) n->RelV v d->Q d n):wpAny (model X.prog X.w) A (call (.builtin "dict.pop") (.ref a :: u :: b)) Q E s:=by
 obtain ⟨z,hd,vs,c,dd⟩:=dk_of I.hok e;obtain ⟨d,hw,g⟩:=RelO.some_of (v:=v) (o:=yel vs k) (by rw [<- l];exact c.val k);have r:(keyPart u).isSome=true:=by
  cases k with
  | inl i=>obtain ⟨t,q⟩:=(show ∃ t,u=ycI i t from j);subst q;rfl
  | inr x=>obtain ⟨t,q⟩:=(show ∃ t,u=ydj x t from j);subst q;rfl
 have y:argsOk "dict.pop" ⟨.ref a :: u :: b,[]⟩:=by
  rcases m with q | ⟨x,q⟩
  ·subst q;exact PySem.F.args_dict_pop_2 _ _
  ·subst q;exact PySem.F.args_dict_pop_3 _ _ _
 refine yc7 yeO dd.typeIs PySem.F.entry_dict_pop y (meets_dict_pop_there (zan X.prog X.w) a (kV_is j) b m r)
  ⟨vs,d,dd,by rw [<- c.length];exact z,hw,λh' f hs=>h d _ ?_ g⟩
 have p:∃ q,h'.get? a=some q:=let ⟨q,_,_,hq,_⟩:=f;⟨q,hq⟩;exact zdt I (by rw [e];exact ybA) hs p (zfC (yaY (dropK_le kvs k) z) hd (c.drop k) f)
theorem d_popD {r:yae} {Q:yae->yag->Prop} (I:Inv X pins σ H s) (e:H a=some (.dK kvs)) (b:RelV (kV k) u) (l:valV kvs k=none) (h:∀ d,Inv X pins σ H d->Q r d) :
  wpAny (model X.prog X.w) A (call (.builtin "dict.pop") [.ref a,u,r]) Q E s:=by
 obtain ⟨z,hd,vs,c,dd⟩:=dk_of I.hok e;have g:yel vs k=none:=RelO.none_of (by rw [<- l];exact c.val k);have f:(keyPart u).isSome=true:=by
  cases k with
  | inl i=>obtain ⟨t,q⟩:=(show ∃ t,u=ycI i t from b);subst q;rfl
  | inr x=>obtain ⟨t,q⟩:=(show ∃ t,u=ydj x t from b);subst q;rfl
 exact yc7 yeO dd.typeIs PySem.F.entry_dict_pop (PySem.F.args_dict_pop_3 _ _ _) (meets_dict_pop_default (zan X.prog X.w) a (kV_is b) hd f r) ⟨vs,dd,g,h _ (I.tok _)⟩
theorem d_clear {Q:yae->yag->Prop} (I:Inv X pins σ H s) (e:H a=some (.dK kvs)) (h:∀ d,Inv X pins σ (upd H a (.dK [])) d->Q .none d):wpAny (model X.prog X.w) A (call (.builtin "dict.clear") [.ref a]) Q E s:=by
 obtain ⟨z,hd,vs,c,dd⟩:=dk_of I.hok e;refine yc7 PySem.F.slot_dict_clear dd.typeIs PySem.F.entry_dict_clear (PySem.F.args_dict_clear_1 _) (meets_dict_clear (zan X.prog X.w) a) ⟨vs,dd,by rw [<- c.length];exact z,λh' b hs=>h _ ?_⟩;have f:∃ q,h'.get? a=some q:=let ⟨q,_,_,hq,_⟩:=b;⟨q,hq⟩;exact zdt (t':=s.toks) I (by rw [e];exact ybA) hs f (zfC (yaW _) hd .nil b)
end
def NoSl (i:Expr):Prop:=∀ ov iv,subscripted i false ov iv=operate [ov,iv] (getItem ov iv)
theorem subD_of {prog:yas} {w:yaS} {A:yaM} {E:yae->yag->Prop} {s:yag} {env:Env} {b a:Expr} {pos:Pos} {T id:String} {Q:yae->yag->Prop}
  (k:ye5 (.type T) "__getitem__" = pure (some (.builtin id))) (hs:NoSl a)
  (h:wpAny (model prog w) A (eval b env) (λo f=>wpAny (model prog w) A (eval a env) (λi c=>c.TypeIs o T/\wpAny (model prog w) A (getItem o i) Q E c) E f) E s) :
  wpAny (model prog w) A (eval (.Subscript b a pos) env) Q E s:=by
 refine Subscript_ (ybJ h (λo f h₁=>ybJ h₁ (λi c d => ?_) λ_ _ x=>x) λ_ _ x=>x);obtain ⟨j,d⟩:=d;unfold subscriptTail;refine yac ?_;rw [getitemInPython_of_ne j.not_modules];refine yac (yci j k ?_);have fin:wpAny (model prog w) A (subscripted a false o i) (λr e=>wpAny (model prog w) A (letTemporaryGo b o r >>= λ_=>pure r) Q E e) E c:=by
  rw [hs o i];exact wpAny_operating (ybJ d (λr e g=>yac (wpAny_letTemporaryGo (yah g))) λ_ _ x=>x)
 first
  | exact yah (yac fin)
  | exact yac (yah (yac fin))
  | exact yac fin
theorem zhp {X:Cx} {pins:List (Addr×Obj)} {c:St} {H:Hp} {s:yag} {a:Addr} {y:V} {o:Option V} (I:Inv X pins c H s) (g:DGet H a y o):s.TypeIs (.ref a) "dict":=by
 rcases g with ⟨kvs,k,e,_,_⟩ | ⟨kvs,k,b,e,_,_,_⟩
 ·obtain ⟨_,_,vs,_,dd⟩:=dk_rd I.hok e;exact dd.typeIs
 ·obtain ⟨_,_,xs,_,dd⟩:=dt_rd I.hok e;exact dd.typeIs
def tDGet (td ty:TE):TE:=λσ H Q=>td σ H λx H1=>ty σ H1 λy H2=>∃ a v,x = .ref a/\DGet H2 a y (some v)/\Q v H2
def tDNotIn (ty td:TE):TE:=λσ H Q=>ty σ H λy H1=>td σ H1 λx H2=>∃ a o,x = .ref a/\DGet H2 a y o/\Q (.bl (!o.isSome)) H2
def sDPut (td ty tv:TE):TS:=λD σ H=>tv σ H λv H1=>td σ H1 λx H2=>ty σ H2 λy H3=>∃ a H4,x = .ref a/\DPut H3 a y v H4/\D.nx σ H4
section
variable {X:Cx} {o i e value:Expr} {pos pos' tpos:Pos} {td ty tv:TE}
theorem zaM (k:X.A.units+1 < cLine) (f:PE X o td) (hi:PE X i ty) (hs:NoSl i):PE X (.Subscript o i pos) (tDGet td ty):=by
 intro pins s e H Q I h;refine subD_of PySem.F.slot_dict_getitem.lookup hs (thn (f pins s e H _ I h) λu m ⟨x,n,z,r,q⟩=>thn (hi pins m e n _ z q) λE D c => ?_);obtain ⟨y,j,d,p,a,v,ex,g,t⟩:=c;subst ex;obtain rfl:u=yaq a:=r;exact ⟨zhp d g,d_getItem k d g p λC B l b=>⟨v,j,l,b,t⟩⟩
theorem zgB (j:X.A.units+1 < cLine) (hi:PE X i ty) (d:PE X o td):PC X .NotIn i o (tDNotIn ty td):=by
 intro pins s c H Q I h;refine thn (hi pins s c H _ I h) λC m ⟨y,n,v,p,q⟩=>thn (d pins m c n _ v q) λu B b => ?_;obtain ⟨x,f,e,r,a,l,ex,g,t⟩:=b;subst ex;obtain rfl:u=yaq a:=r;exact d_notIn j e g p λz k=>⟨.bl (!l.isSome),f,k,rfl,t⟩
theorem zbu (k:X.A.units+1 < cLine) (d:PE X o td) (hi:PE X i ty) (m:PE X value tv) (hs:swapsWith value (some (.Subscript o i pos')) pos.line X.env=pure false) :
  PS X (.Assign [.Subscript o i pos'] value pos) (sDPut td ty tv):=by
 intro pins s b H D I h;refine wpAny_Assign_Subscript (thn (m pins s b H _ I h) λr n ⟨v,p,J,F,t⟩=>thn (d pins n b p _ J t) λu C ⟨x,j,f,B,G⟩=>thn (hi pins C b j _ f G) λO L c => ?_) hs;obtain ⟨y,N,l,q,a,z,ex,g,E⟩:=c;subst ex;obtain rfl:u=yaq a:=B;exact d_setItem k l g q F λM e=>⟨b,z,e,E⟩
end
theorem zhS {P:yas} {w:yaS} {H:Hp} (h:Heap) (a:ybz < h.objs.size):ObjOk P w H (h.push { cls := .type "dict",data := .dict #[] }) h.objs.size (.dK []) :=
 ⟨yaW _,beq_eq_false_iff_ne.mpr (ybt (yay a)),[],.nil,Heap.DictOf.new h⟩
theorem dt_empty {P:yas} {w:yaS} {H:Hp} (h:Heap) (a:ybz < h.objs.size):ObjOk P w H (h.push { cls := .type "dict",data := .dict #[] }) h.objs.size (.dT []) :=
 ⟨yaW _,beq_eq_false_iff_ne.mpr (ybt (yay a)),[],.nil,_,#[],0,yan _ rfl,⟨rfl,rfl,rfl⟩,rfl,rfl,yce⟩
def tDNewK:TE:=λ_ H Q=>∀ p,H p=none->Q (.ref p) (upd H p (.dK []))
def tDNewT:TE:=λ_ H Q=>∀ p,H p=none->Q (.ref p) (upd H p (.dT []))
section
variable {X:Cx} {pos:Pos}
theorem zbo:PE X (.Dict [] [] pos) tDNewK:=λpins s b H Q I h =>
 wpAny_Dict_empty ⟨.ref s.heap.objs.size,_,I.laid (a:=s.heap.objs.size) (o := .dK []) (t':=s.toks) (λ_ _ q=>yad _ q) (yaj _) (zhS s.heap I.big),rfl,h _ (I.hok.fresh (yaj _))⟩
theorem pe_dnewT:PE X (.Dict [] [] pos) tDNewT:=λpins s b H Q I h =>
 wpAny_Dict_empty ⟨.ref s.heap.objs.size,_,I.laid (a:=s.heap.objs.size) (o := .dT []) (t':=s.toks) (λ_ _ q=>yad _ q) (yaj _) (dt_empty s.heap I.big),rfl,h _ (I.hok.fresh (yaj _))⟩
end
def tPairs:List (TE×TE)->St->Hp->(List (V×V)->Hp->Prop)->Prop
 | [],_,H,Q=>Q [] H
 | (tk,tv) :: r,σ,H,Q=>tk σ H λx H1=>tv σ H1 λy H2=>tPairs r σ H2 λps H3=>Q ((x,y) :: ps) H3
abbrev VV:List (V×V)->List (yae×yae)->Prop:=Paired λp q=>RelV p.1 q.1/\RelV p.2 q.2
def PPs (X:Cx) (pos:Pos) (keys:List (Option Expr)) (values:List Expr) (trs:List (TE×TE)):Prop :=
 ∀ (pins:List (Addr×Obj)) (s:yag) (σ:St) (H:Hp) (Q:List (V×V)->Hp->Prop),Inv X pins σ H s->tPairs trs σ H Q ->
  wpAny (model X.prog X.w) X.A (evalPairs (pairTrees keys values X.env pos)) (λvs s'=>∃ ps H',Inv X pins σ H' s'/\VV ps vs/\Q ps H') X.xe s
theorem pps_nil {X:Cx} {pos:Pos}:PPs X pos [] [] []:=λpins s a H Q I h=>pairTrees_nil_walk ⟨[],H,I,.nil,h⟩
theorem pps_cons {X:Cx} {pos:Pos} {k v:Expr} {ks:List (Option Expr)} {vs:List Expr} {e d:TE} {a:List (TE×TE)} (f:PE X k e) (m:PE X v d) (p:PPs X pos ks vs a) :
  PPs X pos (some k :: ks) (v :: vs) ((e,d) :: a):=λpins s b H Q I h =>
 pairTrees_cons_walk (thn (f pins s b H _ I h) λu n ⟨x,o,C,t,r⟩=>thn (m pins n b o _ C r) λE z ⟨y,j,i,q,B⟩ =>
  thn (p pins z b j _ i B) (by rintro ws D ⟨ps,g,l,c,A⟩;exact ⟨(x,y) :: ps,g,l,.cons ⟨t,q⟩ c,A⟩))
def zdU (kvs more:List (Key×V)):List (Key×V):=more.foldl (λacc kv=>putK acc kv.1 kv.2) kvs
theorem KV.merge:∀ {a:List (Key×V)} {b:List (Key×yae)} {kvs:List (Key×V)} {vs:List (Key×yae)},KV a b->KV kvs vs->KV (zdU kvs a) (merged vs b):=by
 intro a b kvs vs r;unfold KV at r
 induction r generalizing kvs vs with
 | nil=>intro q;exact q
 | @cons p q ps qs h t ih =>
  intro c;have e:KV (putK kvs p.1 p.2) (stored vs q.1 q.2):=by
   have:=c.put p.1 h.2;rw [<- h.1];exact this
  exact ih e
theorem zdf:∀ (a kvs:List (Key×V)),(zdU kvs a).length<=kvs.length+a.length
 | [],kvs=>by show kvs.length<=kvs.length+0;omega
 | p :: r,kvs=>by
  have h1:=zdf r (putK kvs p.1 p.2);have h2:=zcl kvs p.1 p.2;show (zdU (putK kvs p.1 p.2) r).length<=_;rw [ya4];omega
theorem zfA {P:yas} {w:yaS}:∀ {kvs:List (Key×V)} {ws:List (yae×yae)},VV (kvs.map λkv=>(kV kv.1,kv.2)) ws->∃ d,Carries (zan P w) ws d/\KV kvs d
 | [],_,r=>by rw [ydv] at r;cases r;exact ⟨[],ybA,.nil⟩
 | p :: kvs,_,r=>by
  rw [yaw] at r;cases r with
  | @cons a b as bs h t =>
   obtain ⟨d,c,q⟩:=zfA (P:=P) (w:=w) t;obtain ⟨f,e⟩:=b;exact ⟨(p.1,e) :: d,⟨kV_is h.1,rfl,c⟩,.cons ⟨rfl,h.2⟩ q⟩
def tDisp (trs:List (TE×TE)):TE:=λσ H Q=>∀ p,H p=none->tPairs trs σ (upd H p (.dK [])) λps H2=>H2 p=some (.dK [])/\∃ kvs:List (Key×V),ps=kvs.map (λkv=>(kV kv.1,kv.2))/\kvs.length<=15/\Q (.ref p) (upd H2 p (.dK (zdU [] kvs)))
theorem pe_disp {X:Cx} {pos:Pos} {keys:List (Option Expr)} {b:List Expr} {d:List (TE×TE)} (h:PPs X pos keys b d) (f:keys.all (·.isSome)=true) (r:keys.length=b.length) (m:keys ≠ [])
  (i:keys.length<=15):PE X (.Dict keys b pos) (tDisp d):=by
 intro pins s y H Q I q;have t:=I.hok.fresh (yaj s.heap.objs.size);have C:=I.laid (a:=s.heap.objs.size) (o := .dK []) (h':=s.heap.push { cls := .type "dict",data := .dict #[] }) (t':=s.toks) (λ_ _ q=>yad _ q) (yaj _) (zhS s.heap I.big);refine wpAny_Dict_walk (knd:=zan X.prog X.w) f r m i (thn (h pins _ y _ _ C (q _ t)) λws F j => ?_);obtain ⟨ps,D,l,k,e,kvs,ep,E,B⟩:=j;subst ep;obtain ⟨u,c,v⟩:=zfA (P:=X.prog) (w:=X.w) k;obtain ⟨z,hd,n,A,dd⟩:=dk_of l.hok e;cases A;refine ⟨u,c,dd,λh' g hs=>⟨.ref s.heap.objs.size,_,?_,rfl,B⟩⟩;have hz:(zdU [] kvs).length<=yaO:=by
  have h1:=zdf kvs [];rw [yek] at h1;rw [yd3];omega
 have p:∃ q,h'.get? s.heap.objs.size=some q:=let ⟨q,_,_,hq,_⟩:=g;⟨q,hq⟩;exact zdt l (by rw [e];exact ybA) hs p (zfC hz hd (v.merge .nil) g)
structure M1 (X:Cx) (o:Expr) (m:Str) (apos:Pos) (e:Expr) (cpos:Pos):Prop where
 base:ycv o m X.env (eval o X.env)=eval o X.env
 few:((ydM cpos (yaZ [e] X.env)).all (λx => !x.1)&&(backToKw cpos (yd4 [] X.env)).all (λx=>x.1.isSome)
  && decide (([e]:List Expr).length+([]:List Keyword).length+(if ([]:List Keyword).isEmpty then 0 else 1) < 30))=true
 line:(apos.endLine == cpos.line)=true
 trees:ydM cpos (yaZ [e] X.env) = [(false,eval e X.env)]
structure M2 (X:Cx) (o:Expr) (m:Str) (apos:Pos) (e f:Expr) (cpos:Pos):Prop where
 base:ycv o m X.env (eval o X.env)=eval o X.env
 few:((ydM cpos (yaZ [e,f] X.env)).all (λx => !x.1)&&(backToKw cpos (yd4 [] X.env)).all (λx=>x.1.isSome)
  && decide (([e,f]:List Expr).length+([]:List Keyword).length+(if ([]:List Keyword).isEmpty then 0 else 1) < 30))=true
 line:(apos.endLine == cpos.line)=true
 trees:ydM cpos (yaZ [e,f] X.env) = [(false,eval e X.env),(false,eval f X.env)]
def IsD (H:Hp) (a:Addr):Prop:=(∃ kvs,Rd H a (.dK kvs))\/∃ kvs,Rd H a (.dT kvs)
theorem zgs {X:Cx} {pins:List (Addr×Obj)} {c:St} {H:Hp} {s:yag} {a:Addr} (I:Inv X pins c H s) (d:IsD H a) :
  s.TypeIs (.ref a) "dict"/\(∀ b,yaq a = .ref b->∃ ob,s.heap.get? b=some ob/\ob.dict=none)/\(a == ybz)=false:=by
 rcases d with ⟨kvs,e⟩ | ⟨kvs,e⟩
 ·obtain ⟨_,hd,vs,_,dd⟩:=dk_rd I.hok e;refine ⟨dd.typeIs,λb q => ?_,hd⟩;cases q;obtain ⟨ob,_,_,h1,h2,_⟩:=dd;exact ⟨ob,h1,h2.2.1⟩
 ·obtain ⟨_,hd,xs,_,dd⟩:=dt_rd I.hok e;refine ⟨dd.typeIs,λb q => ?_,hd⟩;cases q;obtain ⟨ob,_,_,h1,h2,_⟩:=dd;exact ⟨ob,h1,h2.2.1⟩
section
variable {X:Cx} {pins:List (Addr×Obj)} {σ:St} {H:Hp} {s:yag} {a:Addr} {y d:V} {u r:yae} {o:Option V} {A:yaM} {E:yae->yag->Prop}
theorem d_get1 {Q:yae->yag->Prop} (n:A.units+1 < cLine) (I:Inv X pins σ H s) (g:DGet H a y o) (f:RelV y u) (h:∀ i j,Inv X pins σ H j->RelV (o.getD .non) i->Q i j) :
  wpAny (model X.prog X.w) A (call (.builtin "dict.get") [.ref a,u]) Q E s:=by
 rcases g with ⟨kvs,k,e,d,l⟩ | ⟨kvs,k,b,e,d,m,l⟩
 ·subst d;obtain ⟨z,hd,vs,c,dd⟩:=dk_rd I.hok e;refine yc7 ycj dd.typeIs ydo (PySem.F.args_dict_get_2 _ _) (meets_dict_get (zan X.prog X.w) a (kV_is f) hd) ⟨_,dd.mapOf,h _ _ (I.tok _) ?_⟩;rw [l];exact (c.val k).getD rfl
 ·subst d;cases (show u=yaq b from f);obtain ⟨z,hd,xs,c,dd⟩:=dt_rd I.hok e;refine yc7 ycj dd.typeIs ydo (PySem.F.args_dict_get_2 _ _) (meetsH_dict_get (ycJ (zan X.prog X.w)) a b hd) ⟨ycp n,k,xs,zdq I.hok m,dd,h _ _ (I.tok _) ?_⟩;rw [l];exact (c.val k).getD rfl
theorem d_get2 {Q:yae->yag->Prop} (q:A.units+1 < cLine) (I:Inv X pins σ H s) (g:DGet H a y o) (i:RelV y u) (m:RelV d r) (h:∀ j n,Inv X pins σ H n->RelV (o.getD d) j->Q j n) :
  wpAny (model X.prog X.w) A (call (.builtin "dict.get") [.ref a,u,r]) Q E s:=by
 rcases g with ⟨kvs,k,e,f,l⟩ | ⟨kvs,k,b,e,f,p,l⟩
 ·subst f;obtain ⟨z,hd,vs,c,dd⟩:=dk_rd I.hok e;refine yc7 ycj dd.typeIs ydo (PySem.F.args_dict_get_3 _ _ _) (meets_dict_get_default (zan X.prog X.w) a (kV_is i) hd r) ⟨_,dd.mapOf,h _ _ (I.tok _) ?_⟩;rw [l];exact (c.val k).getD m
 ·subst f;cases (show u=yaq b from i);obtain ⟨z,hd,xs,c,dd⟩:=dt_rd I.hok e;refine yc7 ycj dd.typeIs ydo (PySem.F.args_dict_get_3 _ _ _) (meetsH_dict_get_default (ycJ (zan X.prog X.w)) a b hd r) ⟨ycp q,k,xs,zdq I.hok p,dd,h _ _ (I.tok _) ?_⟩;rw [l];exact (c.val k).getD m
end
def tDGet1 (td ty:TE):TE:=λσ H Q=>td σ H λx H1=>∃ a,x = .ref a/\IsD H1 a/\ty σ H1 λy H2=>∃ o,DGet H2 a y o/\Q (o.getD .non) H2
def tDGet2 (td ty tx:TE):TE:=λσ H Q=>td σ H λx H1=>∃ a,x = .ref a/\IsD H1 a/\ty σ H1 λy H2=>tx σ H2 λz H3=>∃ o,DGet H3 a y o/\Q (o.getD z) H3
def tDPop2 (td ty tx:TE):TE:=λσ H Q=>td σ H λx H1=>∃ a,x = .ref a/\IsD H1 a/\ty σ H1 λy H2=>tx σ H2 λz H3=>∃ kvs k,H3 a=some (.dK kvs)/\y=kV k /\
 (∀ v,valV kvs k=some v->Q v (upd H3 a (.dK (dropK kvs k))))/\(valV kvs k=none->Q z H3)
section
variable {X:Cx} {o e f:Expr} {apos cpos:Pos} {td ty tx:TE}
theorem pe_dget1 (p:X.A.units+1 < cLine) (j:PE X o td) (n:PE X e ty) (m:M1 X o "get" apos e cpos):PE X (.Call (.Attribute o "get" apos) [e] [] cpos) (tDGet1 td ty):=by
 intro pins s f H Q I h;refine yeF m.base m.few m.line yb2 ycj PySem.F.type_dict_get (thn (j pins s f H _ I h) λu r c => ?_);obtain ⟨x,t,i,B,a,ex,d,z⟩:=c;subst ex;obtain rfl:u=yaq a:=B;obtain ⟨C,t2,_⟩:=zgs i d;refine ⟨C,t2,?_⟩;rw [m.trees];refine ybK rfl (ycW (ybG (thn (n pins r f t _ i z) λM L ⟨y,l,k,v,J,g,D⟩=>ycY ?_)));exact d_get1 p k g v λG E q b=>⟨_,l,q,b,D⟩
theorem pe_dget2 (v:X.A.units+1 < cLine) (l:PE X o td) (t:PE X e ty) (q:PE X f tx) (m:M2 X o "get" apos e f cpos):PE X (.Call (.Attribute o "get" apos) [e,f] [] cpos) (tDGet2 td ty tx):=by
 intro pins s c H Q I h;refine yeF m.base m.few m.line yb2 ycj PySem.F.type_dict_get (thn (l pins s c H _ I h) λu C i => ?_);obtain ⟨x,D,j,J,a,ex,d,G⟩:=i;subst ex;obtain rfl:u=yaq a:=J;obtain ⟨O,t2,_⟩:=zgs j d;refine ⟨O,t2,?_⟩;rw [m.trees];refine ybK rfl (ycW (ybG (thn (t pins C c D _ j G) λZ L ⟨y,r,p,E,R⟩ =>
  ybG (thn (q pins L c r _ p R) λY S ⟨z,k,B,N,W,g,M⟩=>ycY ?_))))
 exact d_get2 v B g E N λU V n b=>⟨_,k,n,b,M⟩
theorem pe_dpop2 (A:PE X o td) (E:PE X e ty) (C:PE X f tx) (m:M2 X o "pop" apos e f cpos):PE X (.Call (.Attribute o "pop" apos) [e,f] [] cpos) (tDPop2 td ty tx):=by
 intro pins s g H Q I h;refine yeF m.base m.few m.line yb2 yeO PySem.F.type_dict_pop (thn (A pins s g H _ I h) λu G i => ?_);obtain ⟨x,J,p,N,a,ex,d,L⟩:=i;subst ex;obtain rfl:u=yaq a:=N;obtain ⟨V,t2,_⟩:=zgs p d;refine ⟨V,t2,?_⟩;rw [m.trees];refine ybK rfl (ycW (ybG (thn (E pins G g J _ p L) λiv O ⟨y,D,B,n,W⟩ =>
  ybG (thn (C pins O g D _ B W) λM Y ⟨z,t,j,U,kvs,k,ea,S,R,q⟩=>ycY ?_))))
 subst S;cases l:valV kvs k with
 | some v=>exact d_pop j ea n l (.inr ⟨M,rfl⟩) λZ r b c=>⟨v,_,b,c,R v l⟩
 | none=>exact d_popD j ea n l λr b=>⟨z,t,b,U,q l⟩
end
section
variable {X:Cx} {pins:List (Addr×Obj)} {σ:St} {H:Hp} {s:yag} {a:Addr} {kvs:List (Key×V)} {A:yaM} {E:yae->yag->Prop}
theorem d_copyOf {Q:yae->yag->Prop} (I:Inv X pins σ H s) (e:Rd H a (.dK kvs)) (h:∀ p f,H p=none->Inv X pins σ (upd H p (.dK kvs)) f->Q (.ref p) f):wpAny (model X.prog X.w) A (call (.type "dict") [.ref a]) Q E s:=by
 obtain ⟨z,hd,vs,c,dd⟩:=dk_rd I.hok e;refine kt_call_dict hd dd (by rw [<- c.length];exact z) λh' d hs => ?_;refine h _ _ (I.hok.fresh (yaj _)) (I.laid (a:=s.heap.objs.size) (o := .dK kvs) (t':=s.toks) (λb q g => ?_) (yaj _) (zfC z (beq_eq_false_iff_ne.mpr (ybt (yay I.big))) c d));exact (hs.2 b (yay (yar g))).trans (yad _ g)
end
section
variable {X:Cx} {pins:List (Addr×Obj)} {σ:St} {H:Hp} {s:yag} {a:Addr} {y:V} {u:yae} {A:yaM} {E:yae->yag->Prop}
end
end L2
namespace Att
open PySem PySem.W PySem.Calls PyProof.Rows
theorem ze4 {P:Params} {h:Heap}:∀ (ns:List Int) (vs:List yae),WellAll P h vs (ns.map WData.int)->IntsAre vs ns:=by
 intro ns
 induction ns with
 | nil =>
  intro vs w;rw [ydv] at w;cases w;exact .nil
 | cons n ns c =>
  intro vs w;rw [yaw] at w;cases w with
  | cons a b =>
   cases a;exact .cons _ _ (c _ b)
theorem script_of {l:OpenLaw} {n:Nat} (o:l.most=some n) {P:Params} {h:Heap} {args:List WData} {b:List yae}
  (c:l.row.toRowW.claim.pre args=true) (k:WellAll P h b args) :
  ∃ a vs ns,b = [yaq a]/\args = [WData.list (ns.map WData.int)]/\h.get? a=some { cls := .type "list",data := .seq vs.toArray }/\IntsAre vs ns/\ns.length<=n:=by
 have j:WShape.hasAll [] args [.list .int]=true:=(pre_splitW c).1;have hc:l.pre.holds [] { args:=args }=true:=(pre_splitW c).2;obtain ⟨d,r,rfl,h1,h2⟩:=hasAllW_cons j;obtain rfl:=hasAllW_nil h2;obtain ⟨xs,rfl,u⟩:=hasW_list h1;obtain ⟨ns,rfl⟩:=items_int u;have f:ns.length<=n:=by
  unfold OpenLaw.pre at hc;have g:(WTm.not (.lt (.lit (.int (n:Int))) (.len (.arg 0)))).holds [] { args := [.list (ns.map .int)] }=true:=by
   have g:=(holds_andW hc).1;rw [o] at g;exact g
  have i:=condW_of g (w_not (w_lt w_lit (w_len_list (w_arg rfl))));rw [yab] at i;refine Nat.le_of_not_lt λq => ?_;have t:(n:Int) < ((ns.length:Nat):Int):=by omega
  first
   | (rw [decide_eq_true t] at i;exact absurd i (by decide))
   | (simp at i;omega)
 cases k with
 | cons s p =>
  cases p;cases s with
  | list m e=>exact ⟨_,_,ns,rfl,rfl,m,ze4 ns _ e,f⟩
theorem post_true (l:OpenLaw) (args:List WData):l.row.toRowW.claim.post args (.bool true) args=true :=
 postW_of (r:=l.row.toRowW) (X:=(true == true))
  (show WShape.has [] (.bool true) .bool=true by first | rfl | decide | simp [WShape.has,WShape.arms,WShape.armsAll])
  (show (WTm.eq .res (.lit (.bool true))).value [] { args:=args,res:=some (.bool true),after:=args }=some (.bool (true == true)) from w_eq_bool (w_res rfl) w_lit) rfl
theorem attach_call {l:OpenLaw} {n:Nat} {q:yas} {c:List Str} {D:(Str->Option yae)->Heap->Prop} {B:yaS->Heap->Prop} {d:DefRec}
  (L:l.most=some n) (u:d.params.defaults = [])
  (call:∀ (w:yaS) (s₀ b:yag) (mg v:Str->Option yae) (h:Addr) (o:Obj) (t cd e:yae) (a:Addr) (vs:List yae) (ns:List Int),
   Ground q c [] D w s₀ mg v b.heap->B w b.heap ->
   b.heap.get? h=some o->o.data = .func (docDef d.name d.params d.body d.scope t cd e)->b.heap.CodeRec cd d.name->mg d.name=some (.ref h) ->
   b.heap.get? a=some { cls := .type "list",data := .seq vs.toArray }->IntsAre vs ns->ns.length<=n->b.gens = #[] ->
   yeg (model l.prog w) callerA (.call (.ref h) ⟨[.ref a],[]⟩) (λr m=>r = .ok (.ret (.bool true))/\OldK b.heap m.heap/\m.os=b.os/\AllBare m.gens) b) :
  WalkO q c D B l.row.toRowW d [] (λf vs=>PySem.call f vs):=by
 intro w s₀ b mg v G Y h o t cd e N kV H hd p A y O args z as k C I s M;obtain rfl:N = .none:=Dflts.none A u;obtain rfl:kV = .none:=Dflts.noKw A;obtain ⟨a,vs,ns,rfl,rfl,i,g,j⟩:=script_of L k s;refine enter_call (yea (call w s₀ b mg v h o t cd e a vs ns G Y H (fd_plain hd) p y i g j O) λr m F => ?_);obtain ⟨rfl,h2,Q,E⟩:=F;exact ⟨.inl ⟨.bool true,.bool true,[],rfl,λ_=>rfl,.bool true,post_true l _,λ_=>⟨List.Pairwise.nil,λ_ J=>(nomatch J)⟩⟩,h2,Q,E⟩
section
variable {prog:yas} {w:yaS} {A:yaM} {E:yae->yag->Prop} {s:yag} {K:Frag}
end
end Att
namespace L2
open PySem PySem.Spec PyProof.Rows
theorem zgq:∀ {vs:List yae} {ns:List Int},IntsAre vs ns->Vals (ns.map V.int) vs
 | _,_,.nil => .nil
 | _,_,.cons n t h => .cons ⟨t,rfl⟩ (zgq h)
def Only (H:Hp):Prop:=∀ b,H b=none\/∃ o xs,H b=some (.frz o (.lst xs))
theorem law_call {P:yas} {w:yaS} {K:PySem.W.Frag} {mg N:Str->Option yae} {CX:CXT} {k:Nat} {J a:Addr} {U:FuncData} {x:Str} {sp:Sp} {c:yag} {vs:List yae} {ns:List Int}
  (Y:K.In c.heap) (t:c.heap.Ns yaV mg) (g:c.heap.Ns builtinsNs N) (I:∀ x:Str,x ≠ "__name__"->N x=ybf x) (A:c.heap.NoLimit) (hg:c.gens = #[])
  (G:c.heap.get? a=some { cls := .type "list",data := .seq vs.toArray }) (hi:IntsAre vs ns) (Z:ns.length<=yaO) (hr:Room k callerA)
  (F:∀ base:Heap,K.In base->base.Ns yaV mg->FnOk P w K mg base CX k J U [x] sp) (l:∀ (s:yag) (u:yae),BindsTo s U ⟨[u],[]⟩ [(x,u)])
  (M:∀ H:Hp,Only H->SqL K H a (ns.map V.int)->sp [.ref a] H (λv _=>v = .bl true) λ_ _ _=>False)
  (O:∀ H e i,CX [] H c (λ_ _ _=>False) e i->False) :
  yeg (model P w) callerA (.call (.ref J) ⟨[.ref a],[]⟩) (λr i=>r = .ok (.ret (.bool true))/\OldK c.heap i.heap/\i.os=c.os/\AllBare i.gens) c:=by
 have rv:=zgq hi;have B:=hi.length;have core:∀ H:Hp,Only H->SqL K H a (ns.map V.int)->HOk P w H c.heap->(∀ b,H b≠none->b=a)->(H a≠none->K.lookup a=none) ->
   yeg (model P w) callerA (.call (.ref J) ⟨[.ref a],[]⟩) (λr i=>r = .ok (.ret (.bool true))/\OldK c.heap i.heap/\i.os=c.os/\AllBare i.gens) c:=by
  intro H S hS E hA hK;have f:∀ {b:Addr} {o:Obj},c.heap.get? b=some o->H b=none->(hidT c.heap H).get? b=some o:=λe n=>hidT_get e n;have R:∀ {b:Addr} {o:Obj} {es:Array DictEntry} {ep:Nat},c.heap.get? b=some o->o.data = .dict es ep->H b=none:=λ{b o es ep} e d=>by
   cases q:H b with
   | none=>rfl
   | some u =>
    have L:b=a:=hA b (by rw [q];simp);subst L;rw [G] at e;cases e;have d':Data.seq vs.toArray _=Data.dict es ep:=d;cases d'
  have j:∀ {b:Addr} {m:Str->Option yae},c.heap.Ns b m->(hidT c.heap H).Ns b m:=λ{b m} ⟨o,es,ep,e,d,r⟩=>⟨o,es,ep,f e (R e d),d,r⟩;have C:K.In (hidT c.heap H):=λb o e=>f (Y b o e) (by
   cases q:H b with
   | none=>rfl
   | some u =>
    have L:b=a:=hA b (by rw [q];simp);subst L;rw [hK (by rw [q];simp)] at e;cases e)
  have hM:Mod K mg (hidT c.heap H):=⟨C,j t,⟨N,j g,I⟩,let ⟨mc,h1,h2⟩:=A;⟨mc,j h1,h2⟩⟩;have e0:Env0 P w K mg (hidT c.heap H) callerA [] c H:=⟨rfl,hM,λb o e=>of_hidT e,yfp (hidT_size _ _),trivial,λb g=>absurd (show b∈([]:List Addr) from g) (by simp),E,.of_eq hg⟩;refine yea ((F _ C (j t)).run callerA [] c H ⟨[.ref a],[]⟩ [.ref a] [.ref a] _ _ hr e0 (l c (.ref a)) (.cons rfl .nil) (M H S hS)) λr i h => ?_;cases r with
  | error e=>exact (O H e i h).elim
  | ok fl =>
   cases fl with
   | next=>exact ycF h
   | brk=>exact ycF h
   | cont=>exact ycF h
   | ret u =>
    obtain ⟨v,H',os,D,un,y,r',q⟩:=h;have q':v = .bl true:=q;subst q';obtain rfl:u=ydm true:=r';refine ⟨rfl,OldK.of_keep λb o e => ?_,os,D⟩;cases q:H b with
    | none=>exact un.keep b o e q (by intro z;exact absurd (show b∈([]:List Addr) from z) (by simp)) (by simp)
    | some u =>
     rcases S b with z | ⟨ob,xs,z⟩
     ·rw [q] at z;cases z
     ·have z2:=un.frzs b ob _ z;obtain ⟨e1,_⟩:=E b _ z;obtain ⟨e2,_⟩:=y b _ z2;rw [e] at e1;cases e1;exact e2
 cases Q:K.lookup a with
 | some o =>
  have e:=Y a o Q;rw [G] at e;cases e;refine core (λ_=>none) (λ_ => .inl rfl) (.inr ⟨_,vs.toArray,_,Q,rfl,rfl,rfl,by rw [yaE,B];exact Z,by simpa using rv⟩) (λb u z=>by have p:(none:Option HO)=some u:=z;cases p) (λb z=>absurd rfl z) λz=>absurd rfl z
 | none =>
  refine core (λb=>if b=a then some (.frz { cls := .type "list",data := .seq vs.toArray } (.lst (ns.map V.int))) else none) (λb => ?_) (.inl (.inr ⟨{ cls := .type "list",data := .seq vs.toArray },if_pos rfl⟩)) (λb u z => ?_) (λb z => ?_) λ_=>Q
  ·by_cases g:b=a
   ·exact .inr ⟨_,_,if_pos g⟩
   ·exact .inl (if_neg g)
  ·by_cases g:b=a
   ·have p:=(if_pos g).symm.trans z;cases p;subst g;exact ⟨G,by rw [yab];exact Z,vs,_,rv,G⟩
   ·have p:=(if_neg g).symm.trans z;cases p
  ·by_cases g:b=a
   ·exact g
   ·exact absurd (if_neg g) z
theorem walk_of {l:PySem.W.OpenLaw} {n k:Nat} {q:yas} {i:List Str} {XP:(Str->Option yae)->Heap->Prop} {I:yaS->Heap->Prop} {d:DefRec} {K:Params->PySem.W.Frag} {CX:yaS->CXT} {sp:yaS->Sp} {x:Str}
  (N:l.most=some n) (y:n<=yaO) (A:d.params.defaults = []) (O:Room k callerA)
  (R:∀ (w:yaS) (h:Heap),I w h->(K w.params).In h)
  (F:∀ (w:yaS) (mg:Str->Option yae) (r:Addr) (h:Heap),(K w.params).In h->h.Ns yaV mg->mg d.name=some (.ref r) ->
   ∃ t:FuncData,(∀ (s:yag) (u:yae),BindsTo s t ⟨[u],[]⟩ [(x,u)]) /\
    ∀ base:Heap,(K w.params).In base->base.Ns yaV mg->FnOk l.prog w (K w.params) mg base (CX w) k r t [x] (sp w))
  (z:∀ (w:yaS) (H:Hp) (a:Addr) (ns:List Int),ns.length<=n->Only H->SqL (K w.params) H a (ns.map V.int)->sp w [.ref a] H (λv _=>v = .bl true) λ_ _ _=>False)
  (D:∀ (w:yaS) (H:Hp) (s:yag) (e:yae) (B:yag),CX w [] H s (λ_ _ _=>False) e B->False) :
  PySem.W.WalkO q i XP I l.row.toRowW d [] (λf vs=>PySem.call f vs):=by
 refine Att.attach_call N A λw s₀ p mg mb r o pm cd Z a vs ns G Y ho hd L C m j c S => ?_;have E:=R w _ Y;obtain ⟨t,Q,M⟩:=F w mg r _ E G.T.g C;exact law_call E G.T.g G.T.b G.T.builtins G.T.nolimit S m j (yaY c y) O M Q (λH U J=>z w H a ns c U J) λH e B=>D w H p e B
def za5 (s:Stmt) (j:Nat):Stmt:=match s with
 | .ClassDef _ _ _ body _ _ _ _ _ _ _=>body.getD j (.Pass ⟨0,0,0,0⟩)
 | _ => .Pass ⟨0,0,0,0⟩
def zch (s:Stmt):Arguments:=match s with
 | .FunctionDef _ a _ _ _ _ _ _ _ _=>a
 | _=>{ posonlyargs := [],args := [],vararg:=none,kwonlyargs := [],kw_defaults := [],kwarg:=none,defaults := [] }
def zbF (s:Stmt):List Stmt:=match s with
 | .FunctionDef _ _ b _ _ _ _ _ _ _=>b
 | _ => []
def zaj (s:Stmt):Scope:=match s with
 | .FunctionDef _ _ _ _ _ _ sc _ _ _=>sc
 | _=>{ kind := .function,names := [],isGenerator:=false,isCoroutine:=false }
abbrev CX0:CXT:=λ_ _ _ _ _ _=>False
abbrev E0:XK:=λ_ _ _=>False
theorem pass0 {X:Cx}:zeA CX0 X E0:=λ_ _ _ _ _ _ _ h=>h.elim
structure Fun (K:PySem.W.Frag) (x qual:Str) (st:Stmt) (f:Addr) (fd:FuncData):Prop where
 ex:∃ (oc:yae) (od:Option Addr) (kV doc pm:yae) (an:Option Addr) (cdv ct:yae) (osl:Array (Option yae)),
  fd=ycw x qual (zch st) (zbF st) (zaj st) .none kV doc pm an cdv ct/\K.lookup f=some ⟨oc,od,.func fd,osl⟩/\ydR K cdv qual=true
 kp:ycd K (.ref f)=true
section
variable {P:yas} {w:yaS} {K:PySem.W.Frag} {mg:Str->Option yae} {base:Heap}
theorem Fun.ok {x qual:Str} {st:Stmt} {f:Addr} {g:FuncData} {N ps:List Str} {k:Nat} {sp:Sp} (F:Fun K x qual st f g) (S:FnScope N ps (zaj st)) (e:∀ vs H Q E,sp vs H Q E->vs.length=ps.length)
  (b:∀ (a:yae) (A:yaM) (outer:List Env) (s:yag) (H:Hp) (vs:List V) (Q:VK) (E:XK),Room k (A.deeper (envOfC qual (zaj st) s.heap.objs.size f a))->sp vs H Q E ->
   ∃ t,PSs (cxOf CX0 P w K mg base N qual (zaj st) f a A outer s H E).nox (zbF st) t/\t { nx:=λ_ H'=>Q .non H',rt:=Q } (start N vs) H):FnOk P w K mg base CX0 (k+1) f g ps sp:=by
 obtain ⟨n,od,kV,m,o,p,a,ct,i,rfl,l,c⟩:=F.ex;refine fn_of l c S e λA outer s H vs Q E j d => ?_;obtain ⟨t,h,q⟩:=b a A outer s H vs Q E j d;exact ⟨t,h.nox,q⟩
theorem Fun.binds {x qual:Str} {st:Stmt} {f:Addr} {e:FuncData} {ps:List Str} (F:Fun K x qual st f e)
  (h:∀ (kV b d:yae) (c:Option Addr) (a ct:yae) (us:List yae),us.length=ps.length->bindArgs (ycw x qual (zch st) (zbF st) (zaj st) .none kV b d c a ct) ⟨us,[]⟩=pure (ps.zip us)):Binds K e ps []:=by
 obtain ⟨j,od,kV,b,d,c,a,ct,i,rfl,k,g⟩:=F.ex;exact .all (h kV b d c a ct)
theorem fun_mk {x qual:Str} {st:Stmt} {f:Addr} {h:yae} {od e:Option Addr} {d:Array (Option yae)} {kV b g a ct:yae} (l:K.lookup f=some ⟨h,od,.func (ycw x qual (zch st) (zbF st) (zaj st) .none kV b g e a ct),d⟩)
  (c:ydR K a qual=true) (k:ycd K (.ref f)=true):Fun K x qual st f (ycw x qual (zch st) (zbF st) (zaj st) .none kV b g e a ct):=⟨⟨h,od,kV,b,g,e,a,ct,d,rfl,l,c⟩,k⟩
end
theorem hu_of {A:yaM} {k:Nat} (a:Room k A):A.units+1 < cLine:=ycN (Nat.add_le_add_left (by decide:1<=64) _) a.units
section
variable {X:Cx}
theorem pv (i:Nat) {x:Str} {pos:Pos} (c:X.N[i]? = some x:=by rfl) (b:Vis X.env.scope x:=by first | exact yaL rfl | exact Or.inr (yaL rfl) | exact Or.inr (Or.inr rfl)) (hd:(x == ("__debug__" : Str))=false:=by decide)
  (a:(x == ("__classdict__" : Str))=false:=by decide):PE X (.Name x pos) (tVar i):=pe_var c b hd a
end
theorem iteF {A B:Prop} (h:B):if false=true then A else B:=by
 rw [if_neg yaB];exact h
theorem iteT {A B:Prop} (h:A):if true=true then A else B:=by
 rw [if_pos rfl];exact h
theorem ite2 {c A B:Prop} [Decidable c] (h1:c->A) (h2:¬ c->B):if c then A else B:=by
 by_cases h:c
 ·rw [if_pos h];exact h1 h
 ·rw [if_neg h];exact h2 h
theorem iteNS {c A B:Prop} [Decidable c] (hc:c) (h:B):if (!decide c)=true then A else B:=by
 rw [decide_eq_true hc];exact iteF h
def Same (H H':Hp):Prop:=∀ b o,H b=some o->H' b=some o
theorem Same.refl (H:Hp):Same H H:=λ_ _ h=>h
theorem Same.trans {H e d:Hp} (a:Same H e) (b:Same e d):Same H d:=λc o h=>b c o (a c o h)
theorem Same.free {H H':Hp} (e:Same H H') {l:Addr} (h:H' l=Option.none):H l=Option.none:=by
 cases q:H l with
 | none=>rfl
 | some o =>
  rw [e l o q] at h;cases h
section
variable {κ:Type} [DecidableEq κ]
theorem zhI {kvs:List (κ×V)} {k:κ} (h:valV kvs k=none):¬ k∈kvs.map (·.1):=by
 intro m;obtain ⟨p,a,e⟩:=yao.mp m;have q:(kvs.any λkv=>decide (kv.1=k))=true:=yd1.mpr ⟨p,a,decide_eq_true e⟩;rw [zbN,h] at q;exact absurd q (by simp)
theorem valV_in {kvs:List (κ×V)} {k:κ} {v:V} (h:valV kvs k=some v):k∈kvs.map (·.1):=by
 have q:(kvs.any λkv=>decide (kv.1=k))=true:=by
  rw [zbN,h]
  all_goals rfl
 obtain ⟨p,a,e⟩:=yd1.mp q;exact yao.mpr ⟨p,a,of_decide_eq_true e⟩
end
end L2
set_option maxHeartbeats 4000000
namespace L2
open PySem PySem.Spec PyProof.Rows
theorem zeU {env:Env}:∀ (l:List (Str×NameKind)) (cs:List (Str×Addr)),(∀ n,(n,ya6)∈l->∃ c,env.cells.lookup n=some c)->(∀ x c,cs.lookup x=some c->env.cells.lookup x=some c) ->
  ∃ b:List (Str×Addr),(forIn l cs (λx r=>if (x.2 == ya6)=true then do let a <- cellOf env x.1;pure (yc1 ((x.1,a) :: r)) else pure (yc1 r)):Sem (List (Str×Addr)))=pure b /\
   (∀ x c,b.lookup x=some c->env.cells.lookup x=some c)/\(∀ n,(n,ya6)∈l->∃ c,b.lookup n=some c)/\∀ n c,cs.lookup n=some c->∃ c,b.lookup n=some c
 | [],cs,_,h2=>⟨cs,rfl,h2,(λ_ z=>nomatch z),λn c e=>⟨c,e⟩⟩
 | (n,k) :: l,cs,h1,h2=>by
  have g:∀ m,(m,ya6)∈l->∃ c,env.cells.lookup m=some c:=λm h=>h1 m (yal _ h);by_cases j:k=ya6
  ·subst j;obtain ⟨c,hc⟩:=h1 n (yax ..);have o:∀ x d,((n,c) :: cs).lookup x=some d->env.cells.lookup x=some d:=λx d e=>by
    rw [ybc] at e;cases f:x == n with
    | true =>
     rw [f] at e;have ex:x=n:=by simpa using f
     subst ex;have:c=d:=yaz e;rw [<- this];exact hc
    | false=>rw [f] at e;exact h2 x d e
   obtain ⟨b,e1,e2,e3,i⟩:=zeU l ((n,c) :: cs) g o;refine ⟨b,?_,e2,λm h => ?_,λm d e => ?_⟩
   ·rw [yc2];simp only [beq_self_eq_true,if_true];have q:cellOf env n=pure c:=by unfold cellOf;rw [hc]
    rw [q];simp only [pure_bind];exact e1
   ·rcases yaJ.mp h with z | z
    ·have:m=n:=congrArg Prod.fst z;subst this;exact i m c (by rw [ybc];simp)
    ·exact e3 m z
   ·by_cases f:m=n
    ·subst f;exact i m c (by rw [ybc];simp)
    ·exact i m d (by
      rw [ybc];have:(m == n)=false:=by simpa using f
      rw [this];exact e)
  ·obtain ⟨b,e1,e2,e3,i⟩:=zeU l cs g h2;refine ⟨b,?_,e2,λm h => ?_,i⟩
   ·rw [yc2];have p:(k == ya6)=false:=by simpa using j
    simp only [p,yaR,if_false,pure_bind];exact e1
   ·rcases yaJ.mp h with z | z
    ·exact absurd (congrArg Prod.snd z).symm j
    ·exact e3 m z
theorem clos_of {env:Env} {scope:Scope} (h:∀ n,(n,ya6)∈scope.names->∃ c,env.cells.lookup n=some c) :
  ∃ a:List (Str×Addr),closureFor scope env=pure a/\(∀ x c,a.lookup x=some c->env.cells.lookup x=some c)/\∀ n,(n,ya6)∈scope.names->∃ c,a.lookup n=some c:=by
 obtain ⟨a,e1,e2,e3,_⟩:=zeU (env:=env) scope.names [] h ((λx c e=>nomatch e));refine ⟨a,?_,e2,e3⟩;unfold closureFor;refine Eq.trans (bind_pure _) (Eq.trans ?_ e1)
 congr 1
theorem comp_loop {prog:yas} {w:yaS} {A:yaM} {R:Result->yag->Prop} {s:yag} {d a b:Expr} {e:List Expr} {scope:Scope} {pos:Pos} {it f:yae} {env:Env} (I:Nat->yag->Prop)
  (turn:∀ n s,I n s->wpAny (model prog w) A (yd9 it) (λr i=>match r with
   | none=>R (.ok .next) i
   | some v=>wpAny (model prog w) A (ye7 a it v) (λ_ p=>wpAny (model prog w) A (assign a env v) (λ_ j =>
     wpAny (model prog w) A (forIn e true λc r=>if r=true then do let ok <- isTrue c env (eval c env);pure (yc1 ok) else pure (yc1 r)) (λok g =>
      if ok=true then wpAny (model prog w) A (eval d env) (λx l =>
       wpAny (model prog w) A (call (.builtin "list.append") [f,x]) (λ_ o=>∃ m,m < n/\I m o) (λ_ _=>False) l) (λ_ _=>False) g
      else ∃ m,m < n/\I m g) (λ_ _=>False) j) (λ_ _=>False) p) (λ_ _=>False) i) (λ_ _=>False) s)
  (n:Nat) (h:I n s) :
  yeg (model prog w) A (.compLoop (.ListComp d [⟨a,b,e,0⟩] scope pos) 0 it f env) R s:=by
 refine codeAny_loop rfl I (λn s q => ?_) n h;show wpAny _ A ((compTurn (.ListComp d [⟨a,b,e,0⟩] scope pos) 0 it f env).onRaise (λx=>do noteFrame x env;theTreesLotGoes x)) _ _ s;refine wpAny_noted ?_;rw [compTurn_list];refine yac (wpAny_standAt (yac (ybJ (turn n s q) (λr i h1 => ?_) λ_ _ h'=>h'.elim)));cases r with
 | none=>exact yah h1
 | some v =>
  refine yac (ybJ h1 (λ_ p h2 => ?_) λ_ _ h'=>h'.elim);refine yac (ybJ h2 (λ_ j y=>yac (ybJ y (λok g k => ?_) λ_ _ h'=>h'.elim)) λ_ _ h'=>h'.elim);cases ok with
  | false=>exact yah ⟨rfl,k⟩
  | true =>
   exact yac (yac (ybJ k (λx l t=>yac (ybJ t (λ_ o u=>yah (yah ⟨rfl,u⟩)) λ_ _ h'=>h'.elim)) λ_ _ h'=>h'.elim))
abbrev Cx.comp (X:Cx) (scope:Scope) (N:List Str) (cl:List (Str×Addr)) (C:Addr) (s0:yag) (H0:Hp) (fp:List Addr):Cx :=
 { X with N:=N,s₀:=s0,H₀:=H0,env:=compEnvC scope cl C X.env,outer:=X.stack,ex:=fp,fn:=λ_=>false,pn := [],xe:=λ_ _=>False }
def PTs (X:Cx) (ifs:List Expr) (t:TT):Prop :=
 ∀ (pins:List (Addr×Obj)) (s:yag) (σ:St) (H:Hp) (Q:Bool->Hp->Prop),Inv X pins σ H s->t σ H Q ->
  wpAny (model X.prog X.w) X.A (forIn ifs true λc r=>if r=true then do let ok <- isTrue c X.env (eval c X.env);pure (yc1 ok) else pure (yc1 r)) (TP X pins σ Q) X.xe s
def tYes:TT:=λ_ H Q=>Q true H
theorem zaW {X:Cx}:PTs X [] tYes:=λ_ _ _ H _ I h=>wpAny_tests_nil ⟨H,I,h⟩
theorem pts_one {X:Cx} {c:Expr} {t:TT} (h:PT X c t):PTs X [c] t:=λpins s a H Q I hw=>wpAny_tests_one (h pins s a H Q I hw)
def capSt (own:Nat) (caps:List Nat) (σ:St):St:=ybZ own none++caps.map λi=>(σ[i]?).join
def capOk (X:Cx) (scope:Scope) (N:List Str) (own:Nat) (caps:List Nat):Bool :=
 (N.length == own+caps.length)&&(caps.zip (N.drop own)).all λp=>X.N[p.1]? == some p.2&&scope.names.lookup p.2 == some ya6&&(X.env.kindOf p.2 == some .cell || X.env.kindOf p.2 == some .free)
def scOk (X:Cx) (scope:Scope):Bool :=
 (scope.kind == .function)&&scope.names.all λp=>(p.2 != .cell)&&(p.2 != .local || scope.names.lookup p.1 == some .local)&&(p.2 != .free || X.env.kindOf p.1 == some .cell || X.env.kindOf p.1 == some .free)
def tComp (own:Nat) (caps:List Nat) (wi:TI) (g:TG) (tt:TT) (te:TE):TE:=λσ H Q=>wi σ H λJ H1=>∀ D,H1 D=none ->
 ∃ W:Nat->Nat->St->Hp->Prop,(∃ m,W 0 m (capSt own caps σ) (upd H1 D (.lst [])))/\∀ i m τ H2,W i m τ H2 ->
  (J.stop i H2/\Q (.ref D) H2)\/(J.go i H2/\∃ N:St->Hp->Prop,(∀ τ' H',N τ' H'->∃ m',m' < m/\W (i+1) m' τ' H') /\
   ∀ x H3,J.yld i H2 x H3->g x τ H3 λτ4 H4=>tt τ4 H4 λb H5=>if b=true then te τ4 H5 λv H6=>∃ xs,H6 D=some (.lst xs)/\xs.length < yaO/\N τ4 (upd H6 D (.lst (xs ++ [v]))) else N τ4 H5)
structure CF (X:Cx) (pins:List (Addr×Obj)) (H:Hp) (C:Addr):Prop where
 free:H C=none
 loc:C≠X.env.locals
 old:X.s₀.heap.objs.size<=C
 cel:∀ x c,X.env.cells.lookup x=some c->c≠C
 pin:∀ p∈X.pn++pins,p.1≠C
section
variable {X:Cx} {elt tg iter:Expr} {ifs:List Expr} {scope:Scope} {pos:Pos} {N:List Str} {own:Nat} {caps:List Nat} {g:TG} {tt:TT} {te:TE}
theorem zfx {pins:List (Addr×Obj)} {σ:St} {j:Hp} {a:yag} {Q:VK} {it:Addr} {s:List Addr} {tn:Nat->Heap->Prop} {J:It} {F:List (Str×Addr)} {E:yae->yag->Prop} {RR:yae->Addr->Result->yag->Prop}
  (hc:X.calm=true) (ag:scOk X scope=true) (O:capOk X scope N own caps=true)
  (hg:∀ F C s0 H0 s,PG (X.comp scope N F C s0 H0 s) tg g) (ht:∀ F C s0 H0 s,PTs (X.comp scope N F C s0 H0 s) ifs tt) (he:∀ F C s0 H0 s,PE (X.comp scope N F C s0 H0 s) elt te)
  (t:∀ x c,F.lookup x=some c->X.env.cells.lookup x=some c) (ao:∀ n,(n,ya6)∈scope.names->∃ c,F.lookup n=some c)
  (B:Inv X pins σ j a) (T:Turn X.prog X.w X.K tg J s it tn) (af:tn 0 a.heap) (f2:∀ b∈s,FpOk X pins j b)
  (q:∀ D,j D=none ->
   ∃ W:Nat->Nat->St->Hp->Prop,(∃ m,W 0 m (capSt own caps σ) (upd j D (.lst [])))/\∀ i m τ j,W i m τ j ->
    (J.stop i j/\Q (.ref D) j)\/(J.go i j/\∃ N:St->Hp->Prop,(∀ aU H',N aU H'->∃ m',m' < m/\W (i+1) m' aU H') /\
     ∀ x H3,J.yld i j x H3->g x τ H3 λah H4=>tt ah H4 λb H5=>if b=true then te ah H5 λv H6=>∃ xs,H6 D=some (.lst xs)/\xs.length < yaO/\N ah (upd H6 D (.lst (xs ++ [v]))) else N ah H5))
  (bh:∀ D C H' s' m,Inv X pins σ H' s'->CF X pins H' C->s'.heap.Ns C m->Q (.ref D) H'->RR (.ref D) C (.ok .next) s') :
  wpAny (model X.prog X.w) X.A (newList []) (λaZ s3=>wpAny (model X.prog X.w) X.A (newFunctionEnv scope X.env.globals F [] X.env.qual none .none (some X.env)) (λap s4 =>
   yeg (model X.prog X.w) X.A (.compStart (.ListComp elt [⟨tg,iter,ifs,0⟩] scope pos) 0 (.ref it) aZ { ap with scope:=relabel scope X.env }) (RR aZ ap.locals) s4) E s3) E a:=by
 simp only [scOk,ya9,yaX,beq_iff_eq] at ag;obtain ⟨ab,ag⟩:=ag;have Y:∀ y∈scope.names,y.2 ≠ .cell:=λy hy=>by have:=(ag y hy).1.1;simpa using this
 refine ybQ (wpAny_newFunctionEnv Y (by intro y hy;simp at hy) (λh1 aa S => ?_) ab);dsimp only at aa S ⊢;generalize as:a.heap.push { cls := .type "list",dict:=none,data := .seq ([]:List yae).toArray }=G at aa S ⊢;have hC:G.objs.size=a.heap.objs.size+1:=by rw [<- as,ybr]
 have aM:a.heap.objs.size≠G.objs.size:=by rw [hC];exact yay (ycq _)
 have M:∀ b,b < a.heap.objs.size->b≠G.objs.size:=λb f=>by rw [hC];exact yay (ybS f)
 have old:∀ b o,a.heap.get? b=some o->h1.get? b=some o:=λb o e=>S.extBut b o (M b (yar e)) (yad _ (as ▸ yad _ e));have a2:h1.get? a.heap.objs.size=some { cls := .type "list",dict:=none,data := .seq ([]:List yae).toArray }:=S.extBut _ _ aM (yad _ (as ▸ yan _ rfl));have R:j a.heap.objs.size=none:=B.hok.fresh (yaj _);have aj:j G.objs.size=none:=B.hok.fresh (by rw [hC];exact yda _);have a0:∀ H',H' G.objs.size=none->CF X pins H' G.objs.size:=λH' e=>by
  have big:a.heap.objs.size<=G.objs.size:=by rw [hC];exact yda _
  obtain ⟨_,f1,_,f3,f4,f5⟩:=B.fpOk (H':=H') (b:=G.objs.size) big e;exact ⟨e,f1,yaY B.sz big,f4,f5⟩
 have aI:(X.comp scope N F G.objs.size a j s).Ok:=by
  refine ⟨B.ok.mod,?_,B.ok.glob,B.ok.blt,?_,?_,?_,(λx c z=>nomatch z),B.ok.hd,B.ok.frames,.inl rfl,?_,B.bs,yaY B.ok.bsz B.sz,?_,?_,B.stack,B.stkFree⟩
  ·show (relabel scope X.env).kind = .function;exact ab
  ·show a.heap.objs.size<=G.objs.size;rw [hC];exact yda _
  ·intro x y c e1 e2;exact B.ok.inj x y c (t x c e1) (t y c e2)
  ·intro x L;have key:∀ (names:List (Str×NameKind)),(∀ y∈names,y.2 ≠ .cell) ->
     ((names.map λ(n,k)=>if (k == ya6&&X.env.scope.kind == .function&&X.env.kindOf n == some .cell)=true then (n,NameKind.cell) else (n,k)).lookup x=some .cell \/
      (names.map λ(n,k)=>if (k == ya6&&X.env.scope.kind == .function&&X.env.kindOf n == some .cell)=true then (n,NameKind.cell) else (n,k)).lookup x=some .free)->(x,ya6)∈names:=by
    intro names
    induction names with
    | nil=>intro _ h;rcases h with h | h <;> cases h
    | cons p r ih =>
     obtain ⟨n,k⟩:=p;intro aN h;rw [yaw] at h;cases L:x == n with
     | true =>
      have ex:x=n:=by simpa using L
      subst ex;by_cases hk:k=ya6
      ·subst hk;exact yax ..
      ·exfalso;have f:(k == ya6)=false:=by simpa using hk
       have bi:k ≠ .cell:=aN (x,k) (yax ..);simp only [f,ycR,yaR,if_false,ybc,beq_self_eq_true] at h;rcases h with h | h
       ·exact bi (yaz h)
       ·exact hk (yaz h)
     | false =>
      refine yal _ (ih (λy hy=>aN y (yal _ hy)) ?_);by_cases I:(k == ya6&&X.env.scope.kind == .function&&X.env.kindOf n == some .cell)=true
      ·simp only [I,if_true,ybc,L] at h;exact h
      ·simp only [I,yaR,if_false,ybc,L] at h;exact h
   exact ao x (key scope.names Y L)
  ·intro b f;obtain ⟨o,e,_⟩:=T.obj 0 _ af b f;exact ⟨M b (yar e),λx c ec=>(f2 b f).2.2.2.2.1 x c (t x c ec)⟩
  ·intro b o e f;rcases (f2 b f).2.2.2.1 with z | z
   ·exact B.ok.noex b o e z
   ·exact absurd (yaP (yar e) (yaY B.ok.bsz z)) (yc8 _)
  ·intro b f hs;rcases yaJ.mp (B.stkSub b hs) with z | z
   ·exact (f2 b f).2.1 z
   ·exact (f2 b f).2.2.1 z
 have a4:HOk X.prog X.w (upd j a.heap.objs.size (.lst [])) h1:=B.hok.laid old (yaj _) ⟨yaW _,[],0,.nil,a2⟩;have I4:∀ t',Inv (X.comp scope N F G.objs.size a j s) [] (capSt own caps σ) (upd j a.heap.objs.size (.lst [])) { a with heap:=h1,toks:=t' }:=λt'=>by
  simp only [capOk,ya9,yaX,beq_iff_eq] at O;obtain ⟨aJ,O⟩:=O;refine ⟨aI,rfl,B.bare,Un.laid old (yaj _) R,⟨_,aa,?_⟩,?_,?_,?_,(λp hp=>nomatch hp),a4,?_⟩
  ·intro i x v e1 e2 e3;have bt:own<=i:=by
    refine Nat.le_of_not_lt λaO => ?_;rw [capSt,ycS (by simpa using aO),List.getElem?_replicate,if_pos aO] at e2;cases e2
   rw [capSt,ycD (by simpa using bt),ycL,yaf] at e2;cases ec:caps[i - own]? with
   | none=>rw [ec] at e2;cases e2
   | some k =>
    rw [ec] at e2;have V:(σ[k]?).join=some v:=yaz e2;have a5:(k,x)∈caps.zip (N.drop own):=by
     have bm:(N.drop own)[i - own]? = some x:=by
      rw [yem];have:own+(i - own)=i:=by omega
      rw [this];exact e1
     refine List.mem_iff_getElem?.mpr ⟨i - own,?_⟩;rw [List.getElem?_zip_eq_some];exact ⟨ec,bm⟩
    have hk:=O (k,x) a5;simp only [Bool.or_eq_true,beq_iff_eq] at hk;obtain ⟨⟨bn,a3⟩,aR⟩:=hk;have bq:σ[k]? = some (some v):=by
     cases ez:σ[k]? with
     | none=>rw [ez] at V;cases V
     | some o=>rw [ez] at V;cases o with
      | none=>cases V
      | some v'=>have:v'=v:=yaz V;rw [this]
    have aS:Vis X.env.scope x := .inr aR;obtain ⟨m,hn,hl⟩:=B.loc;obtain ⟨u,r,l⟩:=hl k x v bn bq aS;rcases l with ⟨lk,_⟩ | ⟨lk,c,lc,lz⟩
    ·rcases aR with z | z <;> (rw [z] at lk;cases lk)
    ·have av:(x,ya6)∈scope.names:=by
      have key:∀ (names:List (Str×NameKind)),names.lookup x=some .free->(x,ya6)∈names:=by
       intro names
       induction names with
       | nil=>intro h;cases h
       | cons p r ih =>
        obtain ⟨n,k⟩:=p;intro h;rw [ybc] at h;cases L:x == n with
        | true =>
         rw [L] at h;have ex:x=n:=by simpa using L
         have ek:k = .free:=yaz h;subst ex;subst ek;exact yax ..
        | false=>rw [L] at h;exact yal _ (ih h)
      exact key _ a3
     obtain ⟨c',aW⟩:=ao x av;have bf:c'=c:=yaz ((t x c' aW).symm.trans lc);subst bf;refine ⟨u,r,.inr ⟨?_,c',aW,?_⟩⟩
     ·rcases e3 with z | z | z
      ·
       exfalso;have key:∀ (names:List (Str×NameKind)),names.lookup x=some .free ->
         (names.map λ(n,k)=>if (k == ya6&&X.env.scope.kind == .function&&X.env.kindOf n == some .cell)=true then (n,NameKind.cell) else (n,k)).lookup x≠some .local:=by
        intro names
        induction names with
        | nil=>intro h;cases h
        | cons p r ih =>
         obtain ⟨n,k⟩:=p;intro h;rw [ybc] at h;rw [yaw];cases L:x == n with
         | true =>
          rw [L] at h;have ek:k = .free:=yaz h;subst ek;by_cases I:(ya6 == ya6&&X.env.scope.kind == .function&&X.env.kindOf n == some .cell)=true
          ·simp only [I,if_true,ybc,L];intro z;cases z
          ·simp only [I,yaR,if_false,ybc,L];intro z;cases z
         | false =>
          rw [L] at h;by_cases I:(k == ya6&&X.env.scope.kind == .function&&X.env.kindOf n == some .cell)=true
          ·simp only [I,if_true,ybc,L];exact ih h
          ·simp only [I,yaR,if_false,ybc,L];exact ih h
       exact key _ a3 z
      ·exact .inl z
      ·exact .inr z
     ·obtain ⟨o,ho,hd⟩:=lz;exact ⟨o,old _ o ho,hd⟩
  ·intro x c e;obtain ⟨v,o,ho,hd⟩:=B.cell x c (t x c e);exact ⟨v,o,old _ o ho,hd⟩
  ·show upd j a.heap.objs.size (.lst []) G.objs.size=none;rw [zaf (ybt aM)];exact aj
  ·intro x c e;obtain ⟨v,o,ho,hd⟩:=B.cell x c (t x c e);show upd j a.heap.objs.size (.lst []) c=none;rw [zaf (yay (yar ho))];exact B.freeC x c (t x c e)
  ·show (capSt own caps σ).length=N.length;rw [capSt,yaK,ycL,yab,aJ]
 obtain ⟨W,⟨m0,w0⟩,turn⟩:=q a.heap.objs.size R;have Z:∀ {H':Hp},(∀ b∈s,H' b=none)->∀ b∈s,FpOk (X.comp scope N F G.objs.size a j s) [] H' b:=λhn b f=>by
  obtain ⟨o,e,_⟩:=T.obj 0 _ af b f;exact ⟨hn b f,M b (yar e),aI.exfs b f,.inl f,λx c ec=>(f2 b f).2.2.2.2.1 x c (t x c ec),(λp hp=>nomatch hp)⟩
 have bp:∀ b∈s,upd j a.heap.objs.size (.lst []) b=none:=λb f=>by
  obtain ⟨o,e,_⟩:=T.obj 0 _ af b f;rw [zaf (yay (yar e))];exact (f2 b f).1
 have a6:tn 0 h1:=T.keep 0 _ _ af λb _ o e=>old b o e;have aL:∀ {aF:St} {H':Hp} {s':yag},Inv (X.comp scope N F G.objs.size a j s) [] aF H' s'->Inv X pins σ H' s':=λ{aF H' s'} I' =>
  B.call' (ch:=s) I'.os I'.base I'.hok I'.bare λb f=>⟨(f2 b f).2.2.2.1,(f2 b f).2.1,(f2 b f).2.2.2.2.1,(f2 b f).2.2.2.2.2⟩
 have aq:∀ s4:yag,s4 = { a with heap:=h1,toks:=a.toks+([]:List (Str×yae)).length } ->
   yeg (model X.prog X.w) X.A (.compLoop (.ListComp elt [⟨tg,iter,ifs,0⟩] scope pos) 0 (.ref it) (.ref a.heap.objs.size) (compEnvC scope F G.objs.size X.env)) (RR (.ref a.heap.objs.size) G.objs.size) s4:=by
  rintro s4 rfl;refine comp_loop (λn s'=>∃ i τ H',Inv (X.comp scope N F G.objs.size a j s) [] τ H' s'/\tn i s'.heap/\(∀ b∈s,H' b=none)/\W i n τ H') ?_ m0 ⟨0,_,_,I4 _,a6,bp,w0⟩;rintro n s3 ⟨i,ae,H3,I3,a7,aV,w3⟩;rcases turn i n ae H3 w3 with ⟨stop,qn⟩ | ⟨go,N',bu,step⟩
  ·refine thn (T.done (X.comp scope N F G.objs.size a j s) rfl rfl rfl hc i [] s3 ae H3 _ I3 (Z aV) a7 stop) λr s4 ⟨hr,I4⟩ => ?_;subst hr;obtain ⟨m,hn,_⟩:=I4.loc;exact bh _ _ H3 s4 m (aL I4) (a0 H3 I4.free) hn qn
  ·refine thn (T.item (X.comp scope N F G.objs.size a j s) rfl rfl rfl hc i [] s3 ae H3 _ I3 (Z aV) a7 go) λr s4 ⟨u,hr,h4⟩ => ?_;subst hr;refine thn h4 λ_ s5 H => ?_;obtain ⟨x,H5,I5,r5,y5,au,bo⟩:=H;have bg:=I5.pinned (Z bo) (T.obj _ _ au);refine thn (hg F _ a j s _ s5 ae H5 x u _ bg r5 (step x H5 y5)) λ_ s6 H => ?_;obtain ⟨ak,H6,I6,q6⟩:=H;refine thn (ht F _ a j s _ s6 ak H6 _ I6 q6) λb s7 H => ?_;obtain ⟨H7,I7,q7⟩:=H;have again:∀ {U:St} {H8:Hp} {s8:yag},Inv (X.comp scope N F G.objs.size a j s) ([]++zgf s s5.heap) U H8 s8->N' U H8 ->
     ∃ m,m < n/\∃ i τ H',Inv (X.comp scope N F G.objs.size a j s) [] τ H' s8/\tn i s8.heap/\(∀ b∈s,H' b=none)/\W i m τ H':=λ{U H8 s8} I8 n8=>by
    obtain ⟨m',hm,w8⟩:=bu U H8 n8;refine ⟨m',hm,i+1,U,H8,I8.unpinned,T.keep _ _ _ au λb f o e=>(I8.pin (b,o) (yaN _ (yaN _ (zcM f e)))).1,λb f => ?_,w8⟩;obtain ⟨o,e,d⟩:=T.obj _ _ au b f;exact (I8.pin (b,o) (yaN _ (yaN _ (zcM f e)))).2.1
   cases b with
   | false =>
    rw [if_neg (by decide)];rw [if_neg (by decide)] at q7;exact again I7 q7
   | true =>
    rw [if_pos rfl];rw [if_pos rfl] at q7;refine thn (he F _ a j s _ s7 ak H7 _ I7 q7) λu8 s8 H => ?_;obtain ⟨v,H8,I8,r8,xs,hD,hz,n8⟩:=H;refine thn (zbG _ s8 ak H8 (.ref a.heap.objs.size) [v] (.ref a.heap.objs.size) [u8] (λ_ H'=>N' ak H') I8 rfl (.cons r8 .nil) ⟨_,xs,v,rfl,rfl,hD,hz,n8⟩) λ_ s9 H => ?_;obtain ⟨_,H9,I9,_,n9⟩:=H;exact again I9 n9
 exact codeAny_compStart_list (aq _ rfl) (T.self _ 0 _ _ _ a6 (aq _ rfl))
theorem clos_ok {pins:List (Addr×Obj)} {e:St} {H:Hp} {s:yag} (I:Inv X pins e H s) (a:scOk X scope=true) :
  ∃ b:List (Str×Addr),closureFor scope X.env=pure b/\(∀ x c,b.lookup x=some c->X.env.cells.lookup x=some c)/\∀ n,(n,ya6)∈scope.names->∃ c,b.lookup n=some c:=by
 refine clos_of λn d=>I.ok.has n ?_;simp only [scOk,ya9,yaX] at a;have:=(a.2 (n,.free) d).2;simpa using this
theorem zeh (a:scOk X scope=true):scope.kind = .function/\∀ x∈scope.names,x.2 = .local->scope.names.lookup x.1=some .local:=by
 simp only [scOk,ya9,yaX] at a;refine ⟨by simpa using a.1,λx b c => ?_⟩;have:=(a.2 x b).1.2;rw [c] at this;simpa using this
theorem za7 {y:TI} (hc:X.calm=true) (a:scOk X scope=true) (k:capOk X scope N own caps=true) (hi:PI X tg iter y)
  (U:∀ c C l f d,PG (X.comp scope N c C l f d) tg g) (G:∀ c C l f d,PTs (X.comp scope N c C l f d) ifs tt) (M:∀ c C l f d,PE (X.comp scope N c C l f d) elt te)
  (hs:∀ x,yey iter X.env x=pure x:=by intro _;rfl):PE X (.ListComp elt [⟨tg,iter,ifs,0⟩] scope pos) (tComp own caps y g tt te):=by
 intro pins s u H Q I h;obtain ⟨c,n,j,i⟩:=clos_ok I a;rw [eval_ListComp];refine wpAny_comprehension_free (use:=none) rfl hs n (zeh a).1 (zeh a).2 (thn (hi pins s u H _ I h) λv Y h1=>thn h1 λB s2 h2 => ?_);obtain ⟨it,d,Z,J,W,e,E,T,r,S,q⟩:=h2;subst e;refine zfx (Q:=Q) (RR:=λp C=>compPost (model X.prog X.w) X.A X.xe none (EP X pins u Q) p C) hc a k U G M j i E T r S q λD C H' V m L F O z=>⟨m,O,λh' t => ?_⟩;exact ⟨.ref D,H',L.turned (t':=V.toks) (λb o R e=>(t.2 b R).trans e) F.free F.loc (.inr F.old) F.cel F.pin,rfl,z⟩
theorem zew {U:TI} {i:Nat} {y:Str} {f c:Pos} (hN:X.N.Nodup) (E:X.N[i]? = some y) (hy:Loc X.env.scope y) (hc:X.calm=true) (d:scOk X scope=true) (r:capOk X scope N own caps=true) (hi:PI X tg iter U)
  (hg:∀ j C t n k,PG (X.comp scope N j C t n k) tg g) (Z:∀ j C t n k,PTs (X.comp scope N j C t n k) ifs tt) (he:∀ j C t n k,PE (X.comp scope N j C t n k) elt te)
  (u:swapsWith (.ListComp elt [⟨tg,iter,ifs,0⟩] scope pos) (some (.Name y f)) c.line X.env=pure true:=by rfl)
  (hf:X.fn y=true\/X.env.scope.names.lookup y=some .local:=by first | exact .inl rfl | exact .inr rfl | assumption)
  (hs:∀ x,yey iter X.env x=pure x:=by intro _;rfl):PS X (.Assign [.Name y f] (.ListComp elt [⟨tg,iter,ifs,0⟩] scope pos) c) (tAsg (tComp own caps U g tt te) (gName i)):=by
 intro pins s R H D I h;obtain ⟨j,M,p,l⟩:=clos_ok I d;rw [exec_Assign_Name_used y f _ c u];refine yac (wpAny_standAt (yac ?_));show wpAny _ _ (do let _ <- comprehension (.ListComp elt [⟨tg,iter,ifs,0⟩] scope pos) scope X.env (firstIterPos [⟨tg,iter,ifs,0⟩] pos) (newList []) (firstAsync [⟨tg,iter,ifs,0⟩]) (firstIter [⟨tg,iter,ifs,0⟩] X.env) (some (assign (.Name y f) X.env))) _ _ s;refine yac ?_;refine wpAny_comprehension_free (use:=some (assign (.Name y f) X.env)) rfl hs M (zeh d).1 (zeh d).2 (thn (hi pins s R H _ I h) λv s1 h1=>thn h1 λW s2 h2 => ?_);obtain ⟨it,k,tn,J,H2,e,Y,T,z,f2,q⟩:=h2;subst e;refine zfx (Q:=λx H1=>D.nx (R.set i (some x)) H1) (RR:=λO C=>compPost (model X.prog X.w) X.A X.xe (some (assign (.Name y f) X.env)) _ O C) hc d r hg Z he p l Y T z f2 q λG C H' s' m I' F hn V => ?_;show wpAny _ _ (assign (.Name y f) X.env (.ref G)) _ _ s';refine wpAny_assign_Name (zgK (v := .ref G) I' hN E hy rfl (λs3 I3 B => ?_) hf);obtain ⟨a,sb,ha⟩:=B;have L:C≠a:=by
  rcases ha with e | e
  ·rw [e];exact F.loc
  ·exact (F.cel y a e).symm
 refine ⟨m,hn.sameBut sb L,λh' S=>yah (yah ⟨R.set i (some (.ref G)),H',I3.turned (t':=s3.toks) (λb o hb e=>(S.2 b hb).trans e) F.free F.loc (.inr F.old) F.cel F.pin,V⟩)⟩
end
def Its (x:Str):It:=⟨λi _=>i < x.cps.size,λi H v H'=>H'=H/\∃ c,x.cps[i]? = some c/\v = .str ⟨#[c]⟩,λi _=>x.cps.size<=i⟩
theorem turn_strA {P:yas} {w:yaS} {K:PySem.W.Frag} {D:Expr} (it:Addr) (x:Str) (t:Tok):Turn P w K D (Its x) [it] it (λi h=>h.IsStrIter it "str_ascii_iterator" x t i) where
 mem:=by simp
 obj:=λi h st b a=>by
  have e:b=it:=by simpa using a
  subst e;obtain ⟨o,e,c,d⟩:=st;exact ⟨o,e,λv z=>by rw [d] at z;cases z⟩
 keep:=λi h h' st k=>let ⟨o,e,r⟩:=st;⟨o,k it (by simp) o e,r⟩
 item:=by
  intro X n hw A hc i pins s C H E I j st u;subst n hw A;obtain ⟨B,m,J,l,q,y⟩:=j it (by simp);have g:i < x.cps.size:=u;refine wpAny_pyNext_ascii_item st (c:=x.cps[i]) (by simp [g]) λh' f G => ?_;have L:Inv X pins C H { s with heap:=h',toks:=s.toks+1 }:=I.turned (λb o a e=>G.extBut b o a e) B m l q y;obtain ⟨o,e,c,d⟩:=id f;exact ⟨_,rfl,go_of (s:={ s with heap:=h',toks:=s.toks+1 }) e c d (by decide) ⟨.str ⟨#[x.cps[i]]⟩,H,L,⟨_,rfl⟩,⟨rfl,_,by simp [g],rfl⟩,f,λb a=>(j b a).1⟩⟩
 done:=by
  intro X n hw A hc i pins s C H E I j st u;subst n hw A;obtain ⟨B,m,J,l,q,y⟩:=j it (by simp);have p:x.cps.size<=i:=u;exact wpAny_pyNext_ascii_end (I.ok.hd hc) st (by simp [p]) λh' F=>⟨rfl,I.turned (t':=s.toks) (λb o a e=>F b o a e) B m l q y⟩
 self:=λ_ _ _ _ _ st h=>wpAny_pyIter_striter_ascii st h
theorem turn_strW {P:yas} {w:yaS} {K:PySem.W.Frag} {D:Expr} (it:Addr) (x:Str) (t:Tok):Turn P w K D (Its x) [it] it (λi h=>h.IsStrIter it "str_iterator" x t i) where
 mem:=by simp
 obj:=λi h st b a=>by
  have e:b=it:=by simpa using a
  subst e;obtain ⟨o,e,c,d⟩:=st;exact ⟨o,e,λv z=>by rw [d] at z;cases z⟩
 keep:=λi h h' st k=>let ⟨o,e,r⟩:=st;⟨o,k it (by simp) o e,r⟩
 item:=by
  intro X n hw A hc i pins s C H E I j st u;subst n hw A;obtain ⟨B,m,J,l,q,y⟩:=j it (by simp);have g:i < x.cps.size:=u;refine wpAny_pyNext_wide_item st (c:=x.cps[i]) (by simp [g]) λh' f G => ?_;have L:Inv X pins C H { s with heap:=h',toks:=s.toks+1 }:=I.turned (λb o a e=>G.extBut b o a e) B m l q y;obtain ⟨o,e,c,d⟩:=id f;exact ⟨_,rfl,go_of (s:={ s with heap:=h',toks:=s.toks+1 }) e c d (by decide) ⟨.str ⟨#[x.cps[i]]⟩,H,L,⟨_,rfl⟩,⟨rfl,_,by simp [g],rfl⟩,f,λb a=>(j b a).1⟩⟩
 done:=by
  intro X n hw A hc i pins s C H E I j st u;subst n hw A;obtain ⟨B,m,J,l,q,y⟩:=j it (by simp);have p:x.cps.size<=i:=u;exact wpAny_pyNext_wide_end (I.ok.hd hc) st (by simp [p]) λh' F=>⟨rfl,I.turned (t':=s.toks) (λb o a e=>F b o a e) B m l q y⟩
 self:=λ_ _ _ _ _ st h=>wpAny_pyIter_striter_wide st h
def iStr (tl:TE):TI:=λσ H R=>tl σ H λx H1=>∃ z,x = .str z/\R (Its z) H1
section
variable {X:Cx}
theorem pi_str {j l:Expr} {i:TE} (m:PE X l i):PI X j l (iStr i):=by
 intro pins s r H R I h;refine thn (m pins s r H _ I h) λv a f => ?_;obtain ⟨x,d,c,k,p⟩:=f;obtain ⟨z,rfl,q⟩:=p;obtain ⟨t,rfl⟩:=k;have fin:∀ b ∈ [a.heap.objs.size],FpOk X pins d b:=λb n=>by
  have e:b=a.heap.objs.size:=by simpa using n
  subst e;exact c.fpOk (yaj _) (c.hok.fresh (yaj _))
 cases g:z.cps.all (· < 128)
 ·refine wpAny_pyIter_wide g ?_;exact ⟨a.heap.objs.size,[a.heap.objs.size],_,_,d,rfl,c.kept (t':=a.toks) λb o e=>yad _ e,turn_strW _ z t,⟨_,yan _ rfl,rfl,rfl⟩,fin,q⟩
 ·refine wpAny_pyIter_ascii g ?_;exact ⟨a.heap.objs.size,[a.heap.objs.size],_,_,d,rfl,c.kept (t':=a.toks) λb o e=>yad _ e,turn_strA _ z t,⟨_,yan _ rfl,rfl,rfl⟩,fin,q⟩
theorem zaH {own:Nat} {caps:List Nat} {J:It} {g:TG} {t:TT} {s:TE} {r:St} {q:Hp} {Q:Hp->Prop} {D:Addr} (n:Nat) (Pv:Nat->St->Hp->Prop) (A:Pv 0 (capSt own caps r) (upd q D (.lst [])))
  (go:∀ i c H,i < n->Pv i c H->J.go i H) (stop:∀ c H,Pv n c H->J.stop n H)
  (hs:∀ i c H x d,i < n->Pv i c H->J.yld i H x d->g x c d λa o=>t a o λb j=>if b=true then s a j λv k=>∃ xs,k D=some (.lst xs)/\xs.length < yaO/\Pv (i+1) a (upd k D (.lst (xs ++ [v]))) else Pv (i+1) a j)
  (hd:∀ c H,Pv n c H->Q H) :
  ∃ W:Nat->Nat->St->Hp->Prop,(∃ m,W 0 m (capSt own caps r) (upd q D (.lst [])))/\∀ i m c l,W i m c l ->
   (J.stop i l/\Q l)\/(J.go i l/\∃ N:St->Hp->Prop,(∀ f H',N f H'->∃ u,u < m/\W (i+1) u f H') /\
    ∀ x d,J.yld i l x d->g x c d λa o=>t a o λb j=>if b=true then s a j λv k=>∃ xs,k D=some (.lst xs)/\xs.length < yaO/\N a (upd k D (.lst (xs ++ [v]))) else N a j):=by
 refine ⟨λi m c H=>m=n - i/\i<=n/\Pv i c H,⟨n,by simp,yaW _,A⟩,?_⟩;rintro i m c H ⟨rfl,hi,p⟩;by_cases h:i < n
 ·exact .inr ⟨go i c H h p,Pv (i+1),λf H' z=>⟨n - (i+1),by omega,rfl,h,z⟩,λx d y=>hs i c H x d h p y⟩
 ·have e:i=n:=by omega
  subst e;exact .inl ⟨stop c H p,hd c H p⟩
theorem zhY:SlR X (λx lo hi H Q=>∃ z,x = .str z/\z.length<=yaO/\Q (.str (ydw z lo hi)) H):=by
 intro pins s d H x v e f lo hi g Q I c hs pl a h;obtain ⟨z,rfl,hz,q⟩:=h;obtain ⟨t,rfl⟩:=c;have fin:∀ t' k,EP X pins d Q (.str (ydw z lo hi) t') { s with toks:=k }:=λt' k=>⟨.str _,H,I.tok _,⟨_,rfl⟩,q⟩;refine ⟨"str",_,F.slot_str_getitem.lookup,typeIs_str _ _ _,?_⟩;cases pl with
 | none =>
  cases a with
  | none=>exact ydc (l:=none) (u:=none) (st:=none) hs rfl (yfa ⟨yaY (yec z _ _) hz,fin⟩)
  | int j tj=>exact ydc (l:=none) (u:=some (j,tj)) (st:=none) hs rfl (yfa ⟨yaY (yec z _ _) hz,fin⟩)
 | int i b =>
  cases a with
  | none=>exact ydc (l:=some (i,b)) (u:=none) (st:=none) hs rfl (yfa ⟨yaY (yec z _ _) hz,fin⟩)
  | int j tj=>exact ydc (l:=some (i,b)) (u:=some (j,tj)) (st:=none) hs rfl (yfa ⟨yaY (yec z _ _) hz,fin⟩)
def repS (x:Str) (n:Nat):Str:=⟨(ybZ n x.cps.toList).flatten.toArray⟩
theorem repS_fold (x:Str) (n:Nat):(⟨(ybZ n x.cps).foldl (· ++ ·) #[]⟩:Str)=repS x n:=by
 have key:∀ (n:Nat) (a:Array Nat),((ybZ n x.cps).foldl (· ++ ·) a).toList=a.toList++(ybZ n x.cps.toList).flatten:=by
  intro n
  induction n with
  | zero=>intro a;simp
  | succ n b=>intro a;rw [yd6,List.foldl_cons,b,yd6,yfC,Array.toList_append,yc3]
 unfold repS
 congr 1
 have:=key n #[];apply Array.ext';rw [this];simp
theorem zfP:OpR X (yd0 .Mult) (λx y H Q=>∃ z k,x = .str z/\y = .int k/\0<=k/\z.length<=1000/\k<=1000/\Q (.str (repS z k.toNat)) H):=by
 intro pins s j H x y v u Q I f c h;obtain ⟨z,k,rfl,rfl,g,hz,a,q⟩:=h;obtain ⟨t,rfl⟩:=f;obtain ⟨t',rfl⟩:=c;have i:z.length*k.toNat<=1000000:=yaY (Nat.mul_le_mul hz (by omega:k.toNat<=1000)) (by decide);have hsz:(1000000:Nat)<=yaO:=by rw [yd3];decide
 refine P.mul_str (by simp only [Bool.or_eq_false_iff,decide_eq_false_iff_not];omega) (λh1 _ => ?_) (λh1 _ => ?_) ?_
 ·intro d;have h2:(2:Int) ^ 63 - 1 ≥ 1000000*1000:=by decide
  have l:(1000:Int)<=(2 ^ 63 - 1) / k:=by
   refine Int.le_ediv_of_mul_le (by omega) ?_;have:(1000:Int)*k<=1000*1000:=Int.mul_le_mul_of_nonneg_left a (by decide);omega
  omega
 ·have:=zeE;simp only [Builtin.Str.tooLong]
  first
   | (simp;omega)
   | (rw [decide_eq_false_iff_not];omega)
 ·by_cases h1:k < 1
  ·rw [if_pos h1];have b:k=0:=by omega
   subst b;exact ⟨by decide,⟨.str _,H,I.tok _,⟨_,rfl⟩,q⟩⟩
  ·rw [if_neg h1];by_cases h2:(k == 1 || z.length == 0)=true
   ·rw [if_pos h2];have e:repS z k.toNat=z:=by
     rcases Bool.or_eq_true_iff.mp h2 with e | e
     ·have:k=1:=by simpa using e
      subst this;unfold repS;cases z;simp
     ·have:z.length=0:=by simpa using e
      have e2:z.cps = #[]:=Array.eq_empty_of_size_eq_zero this;unfold repS;rw [e2];cases z;simp at e2 ⊢;simp [e2]
    rw [e] at q;exact ⟨.str z,H,I,⟨t,rfl⟩,q⟩
   ·rw [if_neg h2,repS_fold];refine ⟨?_,⟨.str _,H,I.tok _,⟨_,rfl⟩,q⟩⟩;show (repS z k.toNat).length<=yaO;have:(repS z k.toNat).length=k.toNat*z.length:=by
     show (ybZ k.toNat z.cps.toList).flatten.toArray.size=_;rw [yaE,len_rep];simp [Str.length]
    rw [this,Nat.mul_comm];omega
theorem zdQ:∀ {ys:List Str} {us:List yae},Vals (ys.map V.str) us->StrsAre us ys
 | [],us,r=>by rw [ydv] at r;cases r;exact .nil
 | y :: ys,us,r=>by
  rw [yaw] at r;cases r with
  | cons b a =>
   obtain ⟨t,e⟩:=b;subst e;exact .cons y t (zdQ a)
theorem mt_join:MtR X "str.join" (λx xs H Q=>∃ (z:Str) (l:Addr) (ys:List Str),x = .str z/\xs = [.ref l]/\SqL X.K H l (ys.map V.str)/\(ys.map (·.length)).sum+ys.length*z.length<=16777216/\Q (.str (Txt.join z ys)) H):=by
 intro pins s f H x xs v us Q I d e h;obtain ⟨z,l,ys,rfl,rfl,b,hz,q⟩:=h;obtain ⟨t,rfl⟩:=d;obtain ⟨u,rfl,c⟩:=vals1 e;cases c;obtain ⟨a,r,p,_⟩:=I.list b;exact join_list p.isList (by simpa using zdQ r) hz λt' k=>⟨.str _,H,I.tok _,⟨_,rfl⟩,q⟩
theorem call_isiT:CallR X (.builtin "isinstance") (λxs H Q=>∃ x T t b,xs = [x,.ty T]/\TyOf X.K H x t/\ybg X.K t (.type T)=some b/\Q (.bl b) H):=by
 intro pins s g H xs us Q I r h;obtain ⟨x,T,t,b,rfl,ty,c,q⟩:=h;obtain ⟨v,f,rfl,e,a⟩:=vals2 r;cases a;exact isinst_ok I e ty c λd=>⟨.bl b,H,I.tok d,rfl,q⟩
theorem vals_bl:∀ {bs:List Bool} {us:List yae},Vals (bs.map V.bl) us->us=bs.map ydm
 | [],us,r=>by rw [ydv] at r;cases r;rfl
 | b :: bs,us,r=>by
  rw [yaw] at r;cases r with
  | cons c a=>cases c;rw [vals_bl a];rfl
theorem all_range (bs:List Bool):(ycE bs.length).all (λi=>bs.getD i true)=bs.all id:=by
 rw [ycg];simp only [yaX,ydn,id];constructor
 ·intro h b a;obtain ⟨i,hi,rfl⟩:=ybo.mp a;have:=h i hi;rw [yaT,yaa hi] at this;exact this
 ·intro h i hi;rw [yaT,yaa hi];exact h _ (yam hi)
theorem call_all (hc:X.calm=true):CallR X (.builtin "all") (λxs H Q=>∃ (l:Addr) (bs:List Bool),xs = [.ref l]/\H l=some (.lst (bs.map V.bl))/\Q (.bl (bs.all id)) H):=by
 intro pins s D H xs us Q I r h;obtain ⟨l,bs,rfl,g,q⟩:=h;obtain ⟨u,rfl,C⟩:=vals1 r;cases C;obtain ⟨n,E,p,hz⟩:=I.list (SqL.of g);have B:=vals_bl E;subst B;have f:l < s.heap.objs.size:=I.hok.lt g;refine call_all_walk (ydF p.isList ?_);refine ⟨s.heap.objs.size,_,_,_,_,_,(λi=>bs.getD i true),rfl,Walks.list (A:=X.A.in1) (show X.A.in1.handled=none from I.ok.hd hc) s.heap.objs.size l (yay f) (bs.map ydm).toArray,⟨⟨_,yan _ rfl,rfl,rfl⟩,?_⟩,?_,?_⟩
 ·obtain ⟨o,m,y⟩:=p.isList;exact ⟨o,yad _ m,y⟩
 ·intro i v J L G t d;have a:(bs.map ydm)[i]? = some v:=by simpa using t
  rw [yaf] at a;cases c:bs[i]? with
  | none=>rw [c] at a;cases a
  | some b =>
   rw [c] at a;have z:v=ydm b:=(yaz a).symm;subst z;refine ybj ?_;dsimp only at d;rw [yaT,c] at d;exact d
 ·intro h' F k;have e:(ycE (bs.map ydm).toArray.size).all (λi=>bs.getD i true)=bs.all id:=by
   rw [yaE,yab,all_range]
  rw [e];have j:Inv X pins D H { s with heap:=s.heap.push { cls := .type "list_iterator",data := .fields #[.ref l,.int 0 0] } }:=I.kept (t':=s.toks) λb o e2=>yad _ e2;refine ⟨.bl (bs.all id),H,j.turned (it:=s.heap.objs.size) (λb o c e2=>k b o (by simpa using c) e2) (I.hok.fresh (yaj _)) ?_ ?_ ?_ ?_,rfl,q⟩
  ·exact yby I.lt
  ·exact .inr I.sz
  ·exact (I.fpOk (H':=H) (yaj _) (I.hok.fresh (yaj _))).2.2.2.2.1
  ·exact (I.fpOk (H':=H) (yaj _) (I.hok.fresh (yaj _))).2.2.2.2.2
def eqL:List V->List V->Bool
 | [],[]=>true
 | x :: xs,y :: ys=>eqV x y&&eqL xs ys
 | _,_=>false
theorem zgI {xs ys:List V} (h:xs.length=ys.length):(ycE xs.length).all (λj=>eqV (xs.getD j .non) (ys.getD j .non))=eqL xs ys:=by
 induction xs generalizing ys with
 | nil =>
  cases ys with
  | nil=>rfl
  | cons y ys=>cases h
 | cons x xs a =>
  cases ys with
  | nil=>cases h
  | cons y ys =>
   rw [ya4,List.range_succ_eq_map,List.all_cons,ydx,eqL,<- a (yb5 h)];rfl
theorem zhe:∀ {xs ys:List V},xs.length≠ys.length->eqL xs ys=false
 | [],[],h=>absurd rfl h
 | [],_ :: _,_=>rfl
 | _ :: _,[],_=>rfl
 | x :: xs,y :: ys,h=>by
  rw [eqL,zhe λe=>h (by rw [ya4,ya4,e]),Bool.and_false]
def rEqL (K:PySem.W.Frag) (neg:Bool):R2:=λx y H Q=>∃ a b xs ys,x = .ref a/\y = .ref b/\SqL K H a xs/\SqL K H b ys/\xs.all flatV=true/\ys.all flatV=true/\Q (.bl (if neg then !eqL xs ys else eqL xs ys)) H
theorem zcE {A:yaM} {s:yag} {xs ys:List V} {us ws:List yae} (r:Vals xs us) (q:Vals ys ws) (h:xs.all flatV=true) (m:ys.all flatV=true) :
  ∀ j (h1:j < us.toArray.size) (h2:j < ws.toArray.size),SeqAt.EqAt A s us.toArray[j] ws.toArray[j] (eqV (xs.getD j .non) (ys.getD j .non)):=by
 intro j h1 h2;have a:j < us.length:=by simpa using h1
 have b:j < ws.length:=by simpa using h2
 have d:j < xs.length:=by rw [r.length];exact a
 have c:j < ys.length:=by rw [q.length];exact b
 obtain ⟨u,f,l⟩:=r.get (i:=j) (x:=xs[j]) (yaa d);obtain ⟨k,g,e⟩:=q.get (i:=j) (x:=ys[j]) (yaa c);have e1:us.toArray[j]=u:=by
  have:us[j]? = some us[j]:=yaa a;rw [this] at f;simpa using yaz f
 have e2:ws.toArray[j]=k:=by
  have:ws[j]? = some ws[j]:=yaa b;rw [this] at g;simpa using yaz g
 rw [e1,e2,yaT,yaT,yaa d,yaa c];exact zdo l e (yaX.mp h _ (yam d)) (yaX.mp m _ (yam c))
theorem op_eqL (g:X.A.units < cLine):OpR X (yba .Eq) (rEqL X.K false):=by
 intro pins s r H x y v u Q I o n h;obtain ⟨a,b,xs,ys,rfl,rfl,p,l,k,m,q⟩:=h;cases o;cases n;obtain ⟨us,c,p1,t⟩:=I.list p;obtain ⟨ws,f,i,z⟩:=I.list l;by_cases d:xs.length=ys.length
 ·refine SeqAt.eq_listAt (e:=λj=>eqV (xs.getD j .non) (ys.getD j .non)) p1.isList i.isList (by simp [<- c.length,<- f.length,d]) g (zcE c f k m) ?_;rw [yaE,<- c.length,zgI d];exact ⟨.bl _,H,I,rfl,q⟩
 ·refine SeqAt.eq_list_lengthsAt p1.isList i.isList (by simp [<- c.length,<- f.length,d]) g ?_;rw [if_neg (by decide),zhe d] at q;exact ⟨.bl false,H,I,rfl,q⟩
theorem op_neL (g:X.A.units < cLine):OpR X (yba .NotEq) (rEqL X.K true):=by
 intro pins s r H x y v u Q I o n h;obtain ⟨a,b,xs,ys,rfl,rfl,p,l,k,m,q⟩:=h;cases o;cases n;obtain ⟨us,c,p1,t⟩:=I.list p;obtain ⟨ws,f,i,z⟩:=I.list l;by_cases d:xs.length=ys.length
 ·refine yfs (e:=λj=>eqV (xs.getD j .non) (ys.getD j .non)) p1.isList i.isList (by simp [<- c.length,<- f.length,d]) g (zcE c f k m) X.prog X.w _ _ ?_;rw [yaE,<- c.length,zgI d];exact ⟨.bl _,H,I,rfl,q⟩
 ·refine SeqAt.RcNeAt.lists_lengths p1.isList i.isList (by simp [<- c.length,<- f.length,d]) g X.prog X.w _ _ ?_;rw [if_pos rfl,zhe d] at q;exact ⟨.bl true,H,I,rfl,q⟩
def CDivB (i j:Int):Prop:=0 < j/\j < 2 ^ 64
theorem zaR:OpR X (yd0 .FloorDiv) (rI CDivB λi j => .int (i / j)):=opI λi j _ _ _ _ _ hc q=>by
 refine floordiv_int (by have:=hc.1;omega) ?_ (.inl (PyProof.noPylong_of_log2 ?_))
 ·rw [Int.fdiv_eq_ediv_of_nonneg _ (Int.le_of_lt hc.1)];exact q
 ·have b:j.natAbs < 2 ^ 64:=by have h1:=hc.1;have h2:=hc.2;omega
  by_cases a:j.natAbs=0
  ·rw [a];decide +kernel
  ·have:=(Nat.log2_lt a).mpr b;omega
end
structure Fx (K:PySem.W.Frag) (mg:Str->Option yae) (x:Str) (st:Stmt) (ps:List Str) where
 f:Addr
 fd:FuncData
 fn:Fun K x x st f fd
 bi:Binds K fd ps []
 gl:mg x=some (.ref f)
theorem zaq {X:Cx} {x:Str} {st:Stmt} {ps:List Str} {k:Nat} {sp:Sp} {e:Expr} {es:List Expr} {t:TA} {p pos:Pos} {F:Fx X.K X.mg x st ps} (G:FnOk X.prog X.w X.K X.mg X.base CX0 k F.f F.fd ps sp) (h:Room k X.A) (c:Gl X x) (d:PA X (e :: es) t)
  (b:(x == ("__debug__" : Str))=false:=by decide) (g:yaZ (e :: es) X.env=(false,eval e X.env) :: yaZ es X.env:=by rfl) (a:(ydM pos (yaZ es X.env)).any (·.1)=false:=by rfl) :
  PE X (.Call (.Name x p) (e :: es) [] pos) (tCall sp [] E0 t):=pe_call G h c F.gl F.fn.kp F.bi .nil pass0 d b g a
theorem Same.upd {H H':Hp} {a:Addr} {o:HO} (s:Same H H') (h:H a=none):Same H (L2.upd H' a o):=λb u e=>by
 rw [zaf (zar e h)];exact s b u e
theorem Same.new {H:Hp} {a:Addr} {o:HO} (h:H a=none):Same H (L2.upd H a o):=(Same.refl H).upd h
theorem Same.tyOf {K:PySem.W.Frag} {H H':Hp} (s:Same H H') {v:V} {t:yae} (h:TyOf K H v t):TyOf K H' v t:=by
 cases h with
 | non=>exact .non
 | bl x=>exact .bl x
 | int i=>exact .int i
 | str x=>exact .str x
 | flt x=>exact .flt x
 | lst e=>exact .lst (s _ _ e)
 | frz e=>exact .frz (s _ _ e)
 | tup e=>exact .tup (s _ _ e)
 | dK e=>exact .dK (s _ _ e)
 | dT e=>exact .dT (s _ _ e)
 | ins e c b f a d=>exact .ins (s _ _ e) c b f a d
theorem zbS {K:PySem.W.Frag} {T:String}:ybg K (.type T) (.type T)=some true:=by
 unfold ybg;rw [if_pos (by simp)]
theorem za9:ybf "len" = some (.builtin "len"):=by decide +kernel
theorem bt_all:ybf "all" = some (.builtin "all"):=by decide +kernel
theorem zaF:ybf "isinstance" = some (.builtin "isinstance"):=by decide +kernel
theorem zcq:ybf "sorted" = some (.builtin "sorted"):=by decide +kernel
theorem zhC:ybf "int" = some (.type "int"):=by decide +kernel
theorem bt_str:ybf "str" = some (.type "str"):=by decide +kernel
theorem zhm:ybf "bool" = some (.type "bool"):=by decide +kernel
theorem zen:ybf "list" = some (.type "list"):=by decide +kernel
theorem zcF:ybf "tuple" = some (.type "tuple"):=by decide +kernel
theorem bt_dict:ybf "dict" = some (.type "dict"):=by decide +kernel
theorem zdJ {α:Type} {xs:List α} {i:Int} {v:α} (a:0<=i) (h:xs[i.toNat]? = some v):atI xs i=some v:=by
 have e:i=((i.toNat:Nat):Int):=by omega
 rw [e];exact zdE (by simpa using h)
theorem zaO {ds:List Int} {i:Int} (b:0<=i) (h1:i < ds.length):atI (ds.map V.int) i=some (.int (ds.getD i.toNat 0)):=by
 refine zdJ b ?_;have a:i.toNat < ds.length:=by omega
 rw [yaf,yaT,yaa a];rfl
theorem atI_strs {ys:List Str} {i:Int} (b:0<=i) (h1:i < ys.length):atI (ys.map V.str) i=some (.str (ys.getD i.toNat Str.empty)):=by
 refine zdJ b ?_;have a:i.toNat < ys.length:=by omega
 rw [yaf,yaT,yaa a];rfl
theorem zhO {ys:List Nat} {i:Int} (b:0<=i) (h1:i < ys.length):atI ys i=some (ys.getD i.toNat 0):=by
 refine zdJ b ?_;have a:i.toNat < ys.length:=by omega
 rw [yaT,yaa a];rfl
theorem getD_mem {α:Type} {l:List α} {j:Nat} {d:α} (h:j < l.length):l.getD j d∈l:=by
 rw [yaT,yaa h];exact yam h
theorem zah {n:Nat} (h:n<=100000):n<=yaO:=yaY h (by rw [yd3];decide)
theorem zai {n:Nat} (h:n < 100000):n < yaO:=yaP h (by rw [yd3];decide)
section
variable {X:Cx} {K:PySem.W.Frag}
theorem zam (h:X.K=K):IxR X (rIxL K):=h ▸ ix_list
theorem zak (h:X.K=K):IxR X (rIxT K):=h ▸ ix_tup
theorem zek (h:X.K=K):SlR X (rSlL K):=h ▸ sl_list
theorem sl_tupK (h:X.K=K):SlR X (rSlT K):=h ▸ sl_tup
theorem ziO (h:X.K=K):OpR X (yba .In) (rIn K false):=h ▸ op_in_seq
theorem zf4 (h:X.K=K):OpR X (yba .NotIn) (rIn K true):=h ▸ zgG
theorem op_eqLK (h:X.K=K) (a:X.A.units < cLine):OpR X (yba .Eq) (rEqL K false):=h ▸ op_eqL a
theorem op_neLK (h:X.K=K) (a:X.A.units < cLine):OpR X (yba .NotEq) (rEqL K true):=h ▸ op_neL a
theorem zav (h:X.K=K):CallR X (.builtin "len") (λxs H Q=>∃ p ys,xs = [.ref p]/\(SqL K H p ys\/SqT K H p ys)/\Q (.int ys.length) H):=h ▸ zgN
theorem zge (h:X.K=K):CallR X (.type "list") (λxs H Q=>∃ p ys,xs = [.ref p]/\(SqL K H p ys\/SqT K H p ys)/\∀ l,H l=none->Q (.ref l) (upd H l (.lst ys))):=h ▸ zgl
theorem zbY (h:X.K=K):CallR X (.type "tuple") (λxs H Q=>∃ p ys,xs = [.ref p]/\((SqL K H p ys/\∀ l,H l=none->Q (.ref l) (upd H l (.tup ys)))\/(SqT K H p ys/\Q (.ref p) H))):=h ▸ zfR
theorem za1 (h:X.K=K):CallR X (.builtin "isinstance") (λxs H Q=>∃ x T t b,xs = [x,.ty T]/\TyOf K H x t/\ybg K t (.type T)=some b/\Q (.bl b) H):=h ▸ call_isiT
theorem mt_joinK (h:X.K=K):MtR X "str.join" (λx xs H Q=>∃ (z:Str) (l:Addr) (ys:List Str),x = .str z/\xs = [.ref l]/\SqL K H l (ys.map V.str)/\(ys.map (·.length)).sum+ys.length*z.length<=16777216/\Q (.str (Txt.join z ys)) H):=h ▸ mt_join
theorem zaA {c l:Expr} {a:TE} (h:X.K=K) (b:PE X l a):PI X c l (iList K a):=h ▸ pi_list b
theorem zcy {c l:Expr} {a:TE} (h:X.K=K) (b:PE X l a):PI X c l (iTup K a):=h ▸ pi_tup b
variable {o e:Expr} {es:List Expr} {to:TE} {t:TA} {name:Str} {apos cpos:Pos} {T id:String} {r:V->List V->Hp->VK->Prop}
theorem zdG (h:X.K=K) (f:PlainAttrs T) (c:Slot T name id) (d:typeOf (.builtin id)=pure (.type "method_descriptor")) (e:MtR X id r) (g:PE X o to)
  (a:ycv o name X.env (eval o X.env)=eval o X.env:=by rfl) (b:(apos.endLine == cpos.line)=true:=by rfl):PE X (.Call (.Attribute o name apos) [] [] cpos) (tBM0 K T r to):=h ▸ pe_bm0 f c d e g a b
theorem zdV (h:X.K=K) (k:PlainAttrs T) (d:Slot T name id) (g:typeOf (.builtin id)=pure (.type "method_descriptor")) (j:MtR X id r) (l:PE X o to) (i:PA X (e :: es) t)
  (c:ycv o name X.env (eval o X.env)=eval o X.env:=by rfl)
  (f:((ydM cpos (yaZ (e :: es) X.env)).all (λx => !x.1)&&(backToKw cpos (yd4 [] X.env)).all (λx=>x.1.isSome)
   && decide ((e :: es).length+([]:List Keyword).length+(if ([]:List Keyword).isEmpty then 0 else 1) < 30))=true:=by rfl)
  (b:(apos.endLine == cpos.line)=true:=by rfl) (hs:yaZ (e :: es) X.env=(false,eval e X.env) :: yaZ es X.env:=by rfl) (a:(ydM cpos (yaZ es X.env)).any (·.1)=false:=by rfl) :
  PE X (.Call (.Attribute o name apos) (e :: es) [] cpos) (tBM K T r to t):=h ▸ pe_bm k d g j l i c f b hs a
theorem zaE {f:Str} {pos:Pos} {a:TE} (h:X.K=K) (b:PE X e a) (c:ycv e f X.env (eval e X.env)=eval e X.env):PE X (.Attribute e f pos) (tFld K a f):=h ▸ pe_fld b c
theorem zbe {es:List Expr} {k n:Nat} {t:TGs} {pos:Pos} (c:X.K=K) (hc:X.calm=true) (h:PGs X es t)
  (b:(yex es X.env).length=n:=by rfl) (a:(yex es X.env).findIdx? (·.1)=none:=by rfl):PG X (.Tuple es k pos) (gTup K n t):=c ▸ pg_tup hc h b a
end
structure Mx (K:PySem.W.Frag) (C:Addr) (m qual:Str) (st:Stmt) (ps:List Str) where
 f:Addr
 fd:FuncData
 fn:Fun K m qual st f fd
 bi:Binds K fd ps []
 me:Meth K C m f
section
variable {X:Cx} {C:Addr} {m qual:Str} {st:Stmt} {ps:List Str} {k:Nat} {sp:Sp} {o e:Expr} {es:List Expr} {ta:TE} {t:TA} {apos pos:Pos}
theorem zaP {pl:Sem Bool} {F:Mx X.K C m qual st ps} (c:Cls X.K C) (G:FnOk X.prog X.w X.K X.mg X.base CX0 k F.f F.fd ps sp) (i:Room k X.A) (j:PE X o ta) (h:PA X (e :: es) t)
  (b:yaZ (e :: es) X.env=(false,eval e X.env) :: yaZ es X.env:=by rfl) (a:(ydM pos (yaZ es X.env)).any (·.1)=false:=by rfl)
  (g:eval (.Call (.Attribute o m apos) (e :: es) [] pos) X.env=(do
   let d <- eval o X.env
   standAt apos.atName
   let (f,first) <- holding [d] (getMethod d m pl)
   callWith pos f first (ydM pos (yaZ (e :: es) X.env)) (backToKw pos (yd4 [] X.env))):=by rfl) :
  PE X (.Call (.Attribute o m apos) (e :: es) [] pos) (tMeth C m sp [] E0 ta t):=pe_meth j c F.me G i F.bi .nil pass0 h b a g
theorem zcL {pl:Sem Bool} {F:Mx X.K C m qual st ps} (c:Cls X.K C) (G:FnOk X.prog X.w X.K X.mg X.base CX0 k F.f F.fd ps sp) (e:Room k X.A) (d:PE X o ta)
  (b:eval (.Call (.Attribute o m apos) [] [] pos) X.env=(do
   let a <- eval o X.env
   standAt apos.atName
   let (f,first) <- holding [a] (getMethod a m pl)
   callWith pos f first (ydM pos (yaZ [] X.env)) (backToKw pos (yd4 [] X.env))):=by rfl) :
  PE X (.Call (.Attribute o m apos) [] [] pos) (tMeth C m sp [] E0 ta tNil):=pe_meth0 d c F.me G e F.bi .nil pass0 b
end
section
variable {X:Cx}
end
section
variable {prog:yas} {w:yaS} {A:yaM} {E:yae->yag->Prop}
end
section
variable {X:Cx}
end
section
variable {M:Model} {A:yaM} {E:yae->yag->Prop} {s:yag} {base:Heap} {env:Env} {outer:List Env} {L e:Addr} {Q:Unit->yag->Prop}
end
section
variable {P:yas} {w:yaS} {H:Hp} {h h':Heap} {fs xs:List Addr}
end
section
variable {P:yas} {w:yaS} {K:PySem.W.Frag} {mg:Str->Option yae} {base:Heap} {N:List Str} {qual:Str} {scope:Scope} {f:Addr} {cd:yae} {A:yaM} {outer:List Env} {s0:yag} {H0:Hp} {E:XK}
end
end L2
namespace L2
open PySem PySem.Spec PyProof.Rows PySem.W
section
variable {prog:yas} {w:yaS} {A:yaM} {E:yae->yag->Prop} {s:yag} {K:PySem.W.Frag} {x D:Addr} {ox:Obj}
end
section
variable {X:Cx} {pins:List (Addr×Obj)} {σ:St} {H:Hp} {s:yag} {h2:Heap} {xs:List Addr}
end
section
variable {X:Cx} {pins pins':List (Addr×Obj)} {σ:St} {H:Hp} {s:yag}
end
section
variable {X:Cx} {ex:St->XK} {C:Addr} {m qual:Str} {st:Stmt} {ps:List Str} {k:Nat} {sp:Sp} {o e:Expr} {es:List Expr} {ta:TE} {t:TA} {apos pos:Pos}
end
section
variable {X:Cx} {K:PySem.W.Frag}
end
section
variable {P:yas} {w:yaS} {K:PySem.W.Frag} {mg:Str->Option yae} {base:Heap}
end
section
variable {P:yas} {w:yaS} {K:PySem.W.Frag} {mg:Str->Option yae} {base:Heap} {N:List Str} {qual q2:Str} {scope:Scope} {f:Addr} {cd:yae} {A:yaM} {outer:List Env} {s0:yag} {H0:Hp} {E:XK}
 {C:Addr} {m:Str} {st:Stmt} {ps:List Str} {k:Nat} {sp:Sp} {o e:Expr} {es:List Expr} {ta:TE} {t:TA} {apos pos:Pos}
end
section
variable {X:Cx} {a:Addr} {ks:List Str}
variable {w:yaS} {K:PySem.W.Frag}
end
structure Tb (t:SetTable):Prop where
 mask:t.mask=7
 dum:t.dummies = #[]
 few:t.place.size<=5
theorem zbQ (t:SetTable) (T:Tb t) (p:SetTable.Probe) (h:p.more=0) :
  (t.advance p).more=0/\(t.advance p).j=(p.i*5+1+p.perturb / 32) % 8/\(t.advance p).i=(p.i*5+1+p.perturb / 32) % 8/\(t.advance p).perturb=p.perturb / 32/\(t.advance p).dummy=p.dummy:=by
 unfold SetTable.advance;rw [if_neg (by omega),T.mask];unfold SetTable.leap;refine ⟨?_,rfl,rfl,rfl,rfl⟩;show yfb 7 _ - _=0;unfold yfb;split <;> omega
def adv (t:SetTable):Nat->SetTable.Probe->SetTable.Probe
 | 0,p=>p
 | n+1,p=>adv t n (t.advance p)
theorem zhH (t:SetTable):∀ (n:Nat) (p:SetTable.Probe),adv t (n+1) p=t.advance (adv t n p)
 | 0,_=>rfl
 | n+1,p=>zhH t n (t.advance p)
theorem zhv (t:SetTable):∀ (n m:Nat) (p:SetTable.Probe),adv t (n+m) p=adv t m (adv t n p)
 | 0,m,p=>by rw [Nat.zero_add];rfl
 | n+1,m,p=>by rw [Nat.succ_add];exact zhv t n m (t.advance p)
theorem zea {t:SetTable} (T:Tb t):∀ (n:Nat) {p:SetTable.Probe},p.more=0->(adv t n p).more=0
 | 0,_,h=>h
 | n+1,_,h=>zea T n (zbQ t T _ h).1
theorem zgm {t:SetTable} (T:Tb t):∀ (n:Nat) {p:SetTable.Probe},p.more=0->(adv t n p).dummy=p.dummy
 | 0,_,h=>rfl
 | n+1,_,h=>(zgm T n (zbQ t T _ h).1).trans (zbQ t T _ h).2.2.2.2
theorem ze5 {t:SetTable} (T:Tb t):∀ (n:Nat) {p:SetTable.Probe},p.more=0->(adv t n p).perturb=p.perturb / 32 ^ n
 | 0,p,_=>by rw [Nat.pow_zero,Nat.div_one];rfl
 | n+1,p,h=>by
  show (adv t n (t.advance p)).perturb=_;rw [ze5 T n (zbQ t T _ h).1,(zbQ t T _ h).2.2.2.1,Nat.div_div_eq_div_mul,Nat.pow_succ,Nat.mul_comm]
def cyc:Nat->Nat->Nat
 | 0,i=>i
 | n+1,i=>cyc n ((i*5+1) % 8)
theorem adv_cyc {t:SetTable} (T:Tb t):∀ (n:Nat) {p:SetTable.Probe},p.more=0->p.perturb=0->(adv t n p).i=cyc n p.i
 | 0,_,_,_=>rfl
 | n+1,p,h,h0=>by
  obtain ⟨a,_,c,d,_⟩:=zbQ t T p h;show (adv t n (t.advance p)).i=cyc n ((p.i*5+1) % 8);rw [adv_cyc T n a (by rw [d,h0]),c,h0]
theorem cyc_all:∀ i,i < 8->∀ j,j < 8->∃ n,n < 8/\cyc n i=j:=by decide +kernel
theorem adv_i {t:SetTable} (T:Tb t) {p:SetTable.Probe} (h:p.more=0) (n:Nat):(adv t (n+1) p).j=(adv t (n+1) p).i/\(adv t (n+1) p).i < 8:=by
 rw [zhH];obtain ⟨_,b,c,_⟩:=zbQ t T _ (zea T n h);rw [b,c];exact ⟨rfl,Nat.mod_lt _ (by decide)⟩
theorem adv_meets {t:SetTable} (T:Tb t) {p:SetTable.Probe} (h:p.more=0) (c:p.perturb < 2 ^ 64) {j:Nat} (b:j < 8):∃ n,n<=22/\(adv t n p).j=j:=by
 have a:=adv_i T h 13;have z:(adv t 14 p).perturb=0:=by
  rw [ze5 T 14 h];exact Nat.div_eq_of_lt (yaP c (by decide))
 obtain ⟨n,d,e⟩:=cyc_all _ a.2 j b;refine ⟨14+n,by omega,?_⟩;have e2:(adv t (14+n) p).i=j:=by rw [zhv,adv_cyc T n (zea T 14 h) z,e]
 have e3:=(adv_i T h (13+n)).1;rw [show 13+n+1=14+n by omega] at e3;rw [e3,e2]
theorem zik {t:SetTable} (T:Tb t) {j:Nat} (h:j∉t.place.toList):t.slot j = .empty:=by
 unfold SetTable.slot;have h1:¬ (t.place[SetTable.below t.place j]? == some j)=true:=λe=>by
  rw [beq_iff_eq] at e;exact h (by rw [<- ybT] at e;exact ycV e)
 have h2:yeP t.dummies j=false:=by
  unfold yeP;rw [T.dum];rfl
 dsimp only;rw [if_neg h1,h2];rfl
theorem zij {t:SetTable} (T:Tb t) (j:Nat):t.slot j = .empty\/∃ i,t.slot j = .live i/\i < t.place.size:=by
 unfold SetTable.slot;dsimp only;by_cases h1:(t.place[SetTable.below t.place j]? == some j)=true
 ·rw [if_pos h1];rw [beq_iff_eq] at h1;exact .inr ⟨_,rfl,(Array.getElem?_eq_some_iff.mp h1).1⟩
 ·rw [if_neg h1];have h2:yeP t.dummies j=false:=by
   unfold yeP;rw [T.dum];rfl
  rw [h2];exact .inl rfl
theorem ziB:∀ (l:List Nat),l.length<=5->∃ j,j < 8/\j∉l:=by
 intro l e;refine Classical.byContradiction λd => ?_;have sub:∀ j,j < 8->j∈l:=λj b=>Classical.byContradiction λh=>d ⟨j,b,h⟩;have key:∀ (k:Nat) (m:List Nat),(∀ j,j < k->j∈m)->k<=m.length:=by
  intro k
  induction k with
  | zero=>intro m _;omega
  | succ k c =>
   intro m a;have h1:=c (m.erase k) λj b=>(List.mem_erase_of_ne (by omega)).mpr (a j (by omega));have h2:=List.length_erase_of_mem (a k (by omega));have f:=List.length_pos_of_mem (a k (by omega));omega
 have:=key 8 l sub;omega
theorem adv_ends {t:SetTable} (T:Tb t) {p:SetTable.Probe} (h:p.more=0) (d:p.perturb < 2 ^ 64):∃ n,n<=22/\t.slot (adv t n p).j = .empty:=by
 obtain ⟨j,c,a⟩:=ziB t.place.toList (by rw [ybu];exact T.few);obtain ⟨n,b,e⟩:=adv_meets T h d c;exact ⟨n,b,by rw [e];exact zik T a⟩
theorem zhX {t:SetTable} (T:Tb t) {hashAt:Nat->Int} {h:Int}:∀ (n b:Nat) (p:SetTable.Probe),p.more=0->p.dummy=none->t.slot (adv t n p).j = .empty->n < b ->
  (∃ j,yeG t hashAt h b p=some (.empty j none)) \/
   ∃ m j i,m < n/\yeG t hashAt h b p=some (.candidate j i (adv t (m+1) p))/\t.slot j = .live i/\i < t.place.size/\hashAt i=h
 | n,0,p,_,_,_,hf=>absurd hf (ydy _)
 | 0,b+1,p,hm,hd,he,_=>by
  refine .inl ⟨p.j,?_⟩;unfold yeG;rw [show t.slot p.j = .empty from he,hd]
 | n+1,b+1,p,hm,hd,he,hf=>by
  unfold yeG;rcases zij T p.j with e | ⟨i,e,hi⟩
  ·rw [e,hd];exact .inl ⟨_,rfl⟩
  ·rw [e];dsimp only;by_cases c:(hashAt i == h)=true
   ·rw [if_pos c];exact .inr ⟨0,_,_,by omega,rfl,e,hi,by simpa using c⟩
   ·rw [if_neg c];obtain ⟨a,_,_,_,d⟩:=zbQ t T p hm;rcases zhX T n b (t.advance p) a (d.trans hd) he (by omega) with ⟨j,x⟩ | ⟨m,j,g,f,x⟩
    ·exact .inl ⟨j,x⟩
    ·exact .inr ⟨m+1,j,g,by omega,x⟩
section
variable {P:yas} {w:yaS} {κ:Type} [DecidableEq κ] {knd:PySem.KeyKind P w κ} {A:yaM} {E:yae->yag->Prop} {s:yag}
theorem zhW {v:yae} (h:yeL v=true) (n:Nat):(∃ b,hashByValue n v=pure b)/\ofAClassStatement n v=pure false:=by
 cases v <;> first
  | (exact absurd h yaB)
  | (cases n <;> exact ⟨⟨_,rfl⟩,rfl⟩)
theorem zgu {ks:List κ} {a:Addr} {Q:Bool->yag->Prop} (d:IsTupleKey knd s.heap ks a) (q:Q false s):wpAny (model P w) A (ofAClassStatement 8 (.ref a)) Q E s:=by
 have f:=d.typeIs;obtain ⟨o,g,n,e,_,hd,hi⟩:=d;unfold ofAClassStatement;refine yac (ydt f ?_);simp only [beq_self_eq_true,if_true];refine yac (yah ?_);simp only [ye1,yaR,if_false];refine yac (yb0 e hd ?_);dsimp only;refine yac ?_;rw [<- yen];refine ydk _ (λleft r c=>r.1=none/\c=s/\∀ v∈left,yeL v=true) _ ?_ ?_ _ _ ⟨rfl,rfl,hi.byValue⟩
 ·rintro v left r c ⟨b,rfl,all⟩;rw [(zhW (all v yax) _).2];refine yac (yah ?_);rw [if_neg (by decide)];exact yah ⟨rfl,rfl,λu h=>all u (yal _ h)⟩
 ·rintro ⟨j,i⟩ c ⟨b,rfl,_⟩;dsimp only at b;subst b;exact yah q
theorem byv_tuple {ks:List κ} {a:Addr} {Q:Bool->yag->Prop} (f:IsTupleKey knd s.heap ks a) (q:∀ b,Q b s):wpAny (model P w) A (hashByValue 8 (.ref a)) Q E s:=by
 have h:=f.typeIs;obtain ⟨o,c,n,g,_,hd,hi⟩:=f;unfold hashByValue;refine yac (yci h F.slot_tuple_hash.lookup ?_);dsimp only;refine yac (yb0 g hd ?_);refine yac ?_;show wpAny _ _ (forIn c _ _) _ _ s;rw [<- yen];refine ydk _ (λleft r d=>d=s/\∀ v∈left,yeL v=true) _ ?_ ?_ _ _ ⟨rfl,hi.byValue⟩
 ·rintro v left r d ⟨rfl,all⟩;obtain ⟨b,e⟩:=(zhW (all v yax) 7).1;rw [e];refine yac (yah ?_);cases b
  ·rw [if_pos (by decide)];exact yah (yah (q _))
  ·rw [if_neg (by decide)];exact yah ⟨rfl,λu j=>all u (yal _ j)⟩
 ·rintro ⟨i,k⟩ d ⟨rfl,_⟩;cases i with
  | none=>exact yah (q _)
  | some b=>exact yah (q _)
theorem zio {k:List κ} {x:Addr} {Q:Bool->yag->Prop} {st:List yae} (d:IsTupleKey knd s.heap k x) (hs:∀ v∈st,∃ y a,v = .ref y/\IsTupleKey knd s.heap a y) (q:Q false s) :
  wpAny (model P w) A (searchCouldBeSeen (.ref x) st) Q E s:=by
 unfold searchCouldBeSeen;refine yac ?_;refine ydk _ (λleft r b=>r.1=none/\b=s/\∀ v∈left,∃ y a,v = .ref y/\IsTupleKey knd s.heap a y) _ ?_ ?_ _ _ ⟨rfl,rfl,hs⟩
 ·rintro v left r b ⟨c,rfl,all⟩;obtain ⟨y,a,rfl,e⟩:=all v yax;have nx:∀ u∈left,∃ y a,u = .ref y/\IsTupleKey knd b.heap a y:=λu f=>all u (yal _ f);dsimp only;refine ydz (λ_=>yah ⟨rfl,rfl,nx⟩) (λ_ => ?_);refine yac (wpAny_eqIsQuiet_tuple d ?_);rw [if_neg (by decide)];refine yac (wpAny_eqIsQuiet_tuple e ?_);rw [if_neg (by decide)];refine yac (zgu d ?_);rw [if_neg (by decide)];refine yac (zgu e ?_);rw [if_neg (by decide)];exact yah ⟨rfl,rfl,nx⟩
 ·rintro ⟨h,g⟩ b ⟨c,rfl,_⟩;dsimp only at c;subst c;exact yah q
end
theorem zgU {t:SetTable} (T:Tb t) {hashAt:Nat->Int} {h:Int} {p:SetTable.Probe} {n:Nat} {r:Option SetTable.Met} (e:t.probe hashAt h p=r) (g:p.more=0) (hd:p.dummy=none) (f:t.slot (adv t n p).j = .empty) (k:n<=200) :
  (∃ j,r=some (.empty j none))\/∃ m j i,m < n/\r=some (.candidate j i (adv t (m+1) p))/\t.slot j = .live i/\i < t.place.size:=by
 subst e;unfold yeK;rcases zhX (h:=h) T n (10*SetTable.turns t.mask) p g hd f (by rw [T.mask];show n < 220;omega) with x | ⟨m,j,i,a,b,c,d,_⟩
 ·exact .inl x
 ·exact .inr ⟨m,j,i,a,b,c,d⟩
section
variable {P:yas} {w:yaS} {κ:Type} [DecidableEq κ] {knd:PySem.KeyKind P w κ} {A:yaM} {E:yae->yag->Prop} {s:yag}
structure SH (knd:PySem.KeyKind P w κ) (h:Heap) (a:Addr) (es:Array (Int×yae)) (ep:Nat) (t:SetTable):Prop where
 ob:∃ o,h.get? a=some o/\o.ExactSet/\o.data = .set es ep t
 tb:Tb t
 sz:t.place.size=es.size
 all:∀ e∈es.toList,∃ k y,e=(ybI knd k,.ref y)/\IsTupleKey knd h k y
theorem Tb.fits {t:SetTable} (T:Tb t) {n:Nat} (h:t.place.size=n):t.fits n=true:=by
 unfold SetTable.fits SetTable.fill;rw [T.mask,T.dum,h];have:=T.few;simp;omega
theorem zg9 {a x:Addr} {es:Array (Int×yae)} {ep:Nat} {t:SetTable} {k:List κ} {h:Int} {Q:SetFound->yag->Prop} (S:SH knd s.heap a es ep t) (L:IsTupleKey knd s.heap k x) (U:A.units < cLine)
  (ne:∀ f y,(ybI knd f,yaq y)∈es.toList->IsTupleKey knd s.heap f y->f≠k) (q:∀ j,Q (.free j false) s) :
  ∀ (n d:Nat) (c:Option SetTable.Probe),n<=200->(c.getD (t.probeStart h)).more=0->(c.getD (t.probeStart h)).dummy=none->t.slot (adv t n (c.getD (t.probeStart h))).j = .empty->n < d ->
   wpAny (model P w) A (ye2 a (.ref x) h true d c) Q E s:=by
 intro n d
 induction d generalizing n with
 | zero=>intro c _ _ _ _ Y;exact absurd Y (ydy _)
 | succ d ih =>
  intro c V z hd I Y;obtain ⟨o,G,Z,g⟩:=S.ob;have p:=S.tb.fits S.sz;have gw:t.gaveWay=false:=by unfold SetTable.gaveWay;rw [S.tb.mask];rfl
  unfold ye2;refine yac (ydI G g p ?_);dsimp only;rw [gw];simp only [yaR,if_false];split
  ·rename_i met heq;rcases zgU S.tb heq z hd I V with ⟨j,e⟩ | ⟨m,j,i,F,e,r,hi⟩
   ·cases e;exact yah (q j)
   ·cases e;dsimp only;have M:i < es.size:=by rw [<- S.sz];exact hi
    obtain ⟨f,y,W,O⟩:=S.all es[i] (by simp);have D:(ybI knd f,yaq y)∈es.toList:=by rw [<- W];simp
    have u:f≠k:=ne f y D O;have B:es[i]? = some (ybI knd f,yaq y):=by rw [ybx M,W]
    have R:t.sameMemory t.moves t.mask=some true:=by unfold SetTable.sameMemory;rw [if_pos (by simp)]
    have N:wpAny (model P w) A (ye2 a (.ref x) h true d (some (adv t (m+1) (c.getD (t.probeStart h))))) Q E s:=by
     refine ih (n - (m+1)) _ (by omega) (zea S.tb _ z) ((zgm S.tb _ z).trans hd) ?_ (by omega);show t.slot (adv t (n - (m+1)) (adv t (m+1) _)).j = .empty;rw [<- zhv,show m+1+(n - (m+1))=n by omega];exact I
    have fin:wpAny (model P w) A (isSame (.ref y) (.ref y) >>= λb=>(pure (if b=true then some i else none):Sem (Option Nat)) >>= λl=>match l with
      | none=>rule "set.search.anew" >>= λ_=>ye2 a (.ref x) h true d none
      | some i'=>if false=true then pure (SetFound.there (some i')) else ye2 a (.ref x) h true d (some (adv t (m+1) (c.getD (t.probeStart h))))) Q E s:=by
     refine yac ?_;unfold isSame;dsimp only;rw [if_pos (by simp)];refine yah (yac (yah ?_));rw [if_pos rfl];dsimp only;rw [if_neg (by decide)];exact N
    refine ydz (λ_=>yac (zio L (λv hv => ?_) ?_)) (λ_ => ?_)
    ·obtain ⟨e,J,rfl⟩:=yao.mp hv;obtain ⟨H,y',ee,C⟩:=S.all e (by
      have:=(Array.mem_filter.mp (ydN.mp J)).1;exact ydN.mpr this)
     exact ⟨y',H,by rw [ee],C⟩
    ·rw [if_neg (by decide)];rw [B];dsimp only;refine yac (ya1 (wpAny_eqBool_tuple U O L ?_));rw [decide_eq_false u];refine yac (ydI G g p ?_);dsimp only;rw [if_neg (by decide),R];dsimp only;rw [if_pos rfl,r];dsimp only;rw [B];dsimp only;exact fin
    ·rw [B];dsimp only;refine yac (ya1 (wpAny_eqBool_tuple U O L ?_));rw [decide_eq_false u];refine yac (ydI G g p ?_);dsimp only;rw [if_neg (by decide),R];dsimp only;rw [if_pos rfl,r];dsimp only;rw [B];dsimp only;exact fin
  ·rename_i heq;rcases zgU S.tb rfl z hd I V with ⟨j,e⟩ | ⟨m,j,i,F,e,r,hi⟩
   ·exact absurd e (heq _)
   ·exact absurd e (heq _)
end
section
variable {P:yas} {w:yaS} {κ:Type} [DecidableEq κ] {knd:PySem.KeyKind P w κ} {A:yaM} {E:yae->yag->Prop} {s:yag}
theorem bits_lt (h:Int):SetTable.bits h < 2 ^ 64:=by
 unfold SetTable.bits;have a:=Int.emod_nonneg h (show (2 ^ 64:Int)≠0 by decide);have h1:=Int.emod_lt_of_pos h (show (0:Int) < 2 ^ 64 by decide);omega
theorem start_ok {t:SetTable} (T:Tb t) (h:Int):(t.probeStart h).more=0/\(t.probeStart h).dummy=none/\(t.probeStart h).perturb < 2 ^ 64:=by
 refine ⟨?_,rfl,bits_lt h⟩;show yfb t.mask _ - _=0;unfold yfb;by_cases z:SetTable.bits h % (t.mask+1)+9<=t.mask
 ·rw [T.mask] at z;omega
 ·rw [if_neg z];omega
theorem zhF {α:Type} (xs:Array α) (p:Nat) (x:α):(ydJ xs p x).size=xs.size+1:=by
 have:=(SetTable.insertAt_perm xs p x).length_eq;simpa using this
theorem ins_mem {α:Type} {xs:Array α} {p:Nat} {x e:α} (h:e∈(ydJ xs p x).toList):e∈xs.toList\/e=x:=by
 have:=(SetTable.insertAt_perm xs p x).mem_iff.mp h;simpa using this
theorem put_ok {t:SetTable} (T:Tb t) (j:Nat):(t.put j).1.mask=7/\(t.put j).1.dummies = #[]/\(t.put j).1.place.size=t.place.size+1:=by
 have h2:yeP t.dummies j=false:=by
  unfold yeP;rw [T.dum];rfl
 unfold SetTable.put;dsimp only;rw [h2];exact ⟨T.mask,T.dum,zhF _ _ _⟩
theorem ziG {a x:Addr} {es:Array (Int×yae)} {ep:Nat} {t:SetTable} {k:List κ} {Q:Bool->yag->Prop} (S:SH knd s.heap a es ep t) (V:es.size<=3) (C:IsTupleKey knd s.heap k x) (Y:A.units < cLine)
  (W:∀ d y,(ybI knd d,yaq y)∈es.toList->IsTupleKey knd s.heap d y->d≠k)
  (q:∀ (h':Heap) (i:Array (Int×yae)) (F:Nat) (t':SetTable),Heap.SameBut a s.heap h'->SH knd h' a i F t'->i.size=es.size+1 ->
   (∀ e∈i.toList,e∈es.toList\/e=(ybI knd k,yaq x))->Q true { s with heap:=h' }) :
  wpAny (model P w) A (setAddHashed a (.ref x) (ybI knd k)) Q E s:=by
 obtain ⟨o,p,D,c⟩:=S.ob;have B:=S.tb.fits S.sz;unfold setAddHashed;refine ya1 ?_;unfold setAddHashedIn;refine yac (ydI p c B ?_);dsimp only;rw [if_neg (by simp [byScan,Value.scannable])];refine yac ?_;unfold setSearch;obtain ⟨R,Z,s2⟩:=start_ok S.tb (ybI knd k);obtain ⟨n,hn,h⟩:=adv_ends S.tb R s2;refine zg9 S C Y W (λj => ?_) n 100000 none (by omega) R Z h (by omega);dsimp only;refine yac (ydI p c B ?_);dsimp only;obtain ⟨J,I,H⟩:=put_ok S.tb j;have G:∀ {y:Addr} {d:List κ},IsTupleKey knd s.heap d y->y≠a:=λ{y d} m e=>by
  obtain ⟨U,u,O,g,_,v,_⟩:=m;rw [e,p] at g;cases g;rw [c] at v;cases v
 have f:∀ t2:SetTable,t2.mask=7->t2.dummies = #[]->t2.place.size=t.place.size+1 ->
   wpAny (model P w) A (storeSet a (ydJ es (t.put j).2 (ybI knd k,.ref x)) t2 >>= λ_=>if (!false&&t2.tooFull)=true then setRelay a (SetTable.grown (es.size+1)) >>= λ_=>pure true else pure true) Q E s:=by
  intro t2 e1 e2 e3;have l:=zhF es (t.put j).2 (ybI knd k,yaq x);refine yac (wpAny_storeSet_of p c ?_ (by rw [l];exact zah (by omega)));have z:t2.tooFull=false:=by
   unfold SetTable.tooFull SetTable.fill;rw [e1,e2,e3,S.sz];simp;omega
  rw [z,if_neg (by decide)];have M:Heap.SameBut a s.heap (s.heap.update a (Obj.putSet (ydJ es (t.put j).2 (ybI knd k,.ref x)) t2)):=yfc ..;refine yah (q _ _ (ep+1) t2 M ⟨⟨_,ybR _ p ?_,?_,?_⟩,⟨e1,e2,?_⟩,?_,λe h => ?_⟩ l λe h=>ins_mem h)
  ·rw [putSet_of _ _ c];rfl
  ·rw [putSet_of _ _ c];exact D
  ·rw [putSet_of _ _ c]
  ·rw [e3,S.sz];omega
  ·rw [e3,S.sz,l]
  ·have keep:∀ {y:Addr} {d:List κ},IsTupleKey knd s.heap d y->IsTupleKey knd (s.heap.update a (Obj.putSet (ydJ es (t.put j).2 (ybI knd k,.ref x)) t2)) d y:=λ{y d} m=>by
    have L:=G m;obtain ⟨U,u,O,g,r⟩:=m;exact ⟨U,u,O,(M.2 y L).trans g,r⟩
   rcases ins_mem h with h | rfl
   ·obtain ⟨d,y,ee,m⟩:=S.all e h;exact ⟨d,y,ee,keep m⟩
   ·exact ⟨k,x,rfl,keep C⟩
 by_cases N:(t.put j).1.plain=true
 ·rw [if_pos N];refine yac (byv_tuple C λb => ?_);cases b
  ·exact f _ J I H
  ·exact f _ J I H
 ·rw [if_neg N];refine yac (yah ?_);exact f _ J I H
theorem add_tuple {a x:Addr} {es:Array (Int×yae)} {ep:Nat} {t:SetTable} {k:List κ} {Q:Bool->yag->Prop} (S:SH knd s.heap a es ep t) (h:es.size<=3) (m:IsTupleKey knd s.heap k x) (l:A.units < cLine)
  (n:∀ i y,(ybI knd i,yaq y)∈es.toList->IsTupleKey knd s.heap i y->i≠k)
  (q:∀ (h':Heap) (j:Nat) (f:Array (Int×yae)) (g:Nat) (t':SetTable),Heap.SameBut a s.heap h'->SH knd h' a f g t'->f.size=es.size+1 ->
   (∀ e∈f.toList,e∈es.toList\/e=(ybI knd k,yaq x))->s.toks<=j->Q true { s with heap:=h',toks:=j }) :
  wpAny (model P w) A (setAdd a (.ref x)) Q E s:=by
 unfold setAdd;refine ya1 (yac (wpAny_pyHash_tuple l m ?_));exact ziG (s:={ s with toks:=_ }) S h m l n λh' f g t' a b c d=>q h' _ f g t' a b c d (by show s.toks<=s.toks+_;omega)
end
section
variable {P:yas} {w:yaS} {A:yaM} {E:yae->yag->Prop} {s:yag}
theorem loop_set {R:Result->yag->Prop} {I S:Addr} {E:List Addr} {n:Nat} {Pv:Nat->yae->Prop} {St:Nat->Heap->Prop} (W:Walks P w A.in1 I E [I] n Pv St) (H:S∉E) (Good:Nat->Heap->Prop)
  (G:∀ i h h',Good i h->(∀ b o,b≠I->h.get? b=some o->h'.get? b=some o)->Good i h')
  (O:∀ (i:Nat) (s:yag) (v:yae) (Q:Bool->yag->Prop) (V:yae->yag->Prop),i < n->Pv i v->Good i s.heap->(∀ h' l,Heap.SameBut S s.heap h'->Good (i+1) h'->Q true { s with heap:=h',toks:=l }) ->
   wpAny (model P w) A.in1 (setAdd S v) Q V s) :
  ∀ (k i:Nat) (s:yag),n - i=k->i<=n->St i s.heap->Good i s.heap ->
   (∀ h' l,(∀ b o,b≠S->b≠I->s.heap.get? b=some o->h'.get? b=some o)->Good n h'->R (.ok (.ret .none)) { s with heap:=h',toks:=l }) ->
   yeg (model P w) A (.builtin "set.update.loop" ⟨[.ref S,.ref I],[]⟩) R s:=by
 have m:=PyProof.Rows.F.entry_set_update_loop;have f:=PyProof.Rows.F.plain_set_update_loop;intro k
 induction k with
 | zero =>
  intro i s J hi st a q;obtain rfl:i=n:=by omega
  refine yck m ?_;rw [ybF f _];refine yac (W.done s _ _ st λh' l j => ?_);exact yah (q h' l (λb o _ r e=>j b o (by simpa using r) e) (G _ _ _ a λb o p e=>j b o (by simpa using p) e))
 | succ k N =>
  intro i s J hi st a q;have lt:i < n:=by omega
  refine yck m ?_;rw [ybF f _];refine yac (W.item i s _ _ lt st λv h1 B L y j => ?_);have c:Good i h1:=G _ _ _ a λb o p e=>j b o (by simpa using p) e;refine yac (ya1 (O i { s with heap:=h1,toks:=B } v _ _ lt L c λh2 M D g => ?_));refine yah ⟨yeo f _,N (i+1) _ (by omega) lt (W.frame _ h1 h2 y λb p o e => ?_) g λU u t d => ?_⟩
  ·exact (D.2 b λz=>H (z ▸ p)).trans e
  ·refine q U u (λb o C r e=>t b o C r ?_) d;exact (D.2 b C).trans (j b o (by simpa using r) e)
end
abbrev set0 (led:Bool):Obj:={ cls := .type "set",dict:=none,data := .set #[] 0 (.fresh 0 0 led) }
section
variable {P:yas} {w:yaS} {A:yaM} {E:yae->yag->Prop} {s:yag}
theorem zeS {T:String} {l:Addr} {n:Nat} {Pv:Nat->yae->Prop} {Q:yae->yag->Prop} (hh:A.handled=none)
  (f1:isSubtype (.type T) (.type "set")=pure false) (f2:isSubtype (.type T) (.type "frozenset")=pure false) (f3:(ycn T == ycn "dict")=false)
  (N:∀ f:yag,(∀ b o,s.heap.get? b=some o->f.heap.get? b=some o)->f.TypeIs (.ref l) T) (lt:l < s.heap.objs.size)
  (it:∀ (J:yaM) (f:yag),J.handled=none->(∀ b o,s.heap.get? b=some o->f.heap.get? b=some o)->∃ (y:Obj) (St:Nat->Heap->Prop),
   (∀ (S:yaM) (E2:yae->yag->Prop) (I:yae->yag->Prop),I (.ref f.heap.objs.size) { f with heap:=f.heap.push y }->wpAny (model P w) S (pyIter (.ref l)) I E2 f) /\
    Walks P w J f.heap.objs.size [f.heap.objs.size,l] [f.heap.objs.size] n Pv St/\St 0 (f.heap.push y))
  (Good:Nat->Heap->Prop) (g0:∀ (a:Bool) (y:Obj),Good 0 ((s.heap.push (set0 a)).push y))
  (g1:∀ i h h',Good i h->(∀ b o,b≠s.heap.objs.size+1->h.get? b=some o->h'.get? b=some o)->Good i h')
  (U:∀ (i:Nat) (C:yag) (v:yae) (Q:Bool->yag->Prop) (Z:yae->yag->Prop),i < n->Pv i v->Good i C.heap->(∀ h' p,Heap.SameBut s.heap.objs.size C.heap h'->Good (i+1) h'->Q true { C with heap:=h',toks:=p }) ->
   wpAny (model P w) A.in1.in1.in1 (setAdd s.heap.objs.size v) Q Z C)
  (q:∀ h' p,(∀ b o,s.heap.get? b=some o->h'.get? b=some o)->Good n h'->Q (.ref s.heap.objs.size) { s with heap:=h',toks:=p }) :
  wpAny (model P w) A (call (.type "set") [.ref l]) Q E s:=by
 have cs:=F.called_set;obtain ⟨c,V,mro⟩:=cs.mro;have made:=cs.made;have sub:=cs.sub;refine wpAny_call (codeAny_of_tree ?_);show wpAny _ _ (callAny (.type "set") _) _ _ _;refine yah ⟨Code.quiet_builtin _ (by decide +kernel),yck F.entry_type_call ?_⟩;rw [Around.under_plain (weight_type_call_type "set" [.ref l] []) rfl];have c1:=cs.notType;have c2:=cs.canCreate;have c3:=F.typeCall_set_1 (.ref l)
 repeat (any_goals (first | assumption | wp_step))
 refine yea (code_set_new_1 (.ref l) (E:=E) (Q₁:=λx m=>∃ a:Bool,x = .ref s.heap.objs.size/\m = { s with heap:=s.heap.push (set0 a) }) λa=>⟨a,rfl,rfl⟩) λr m H => ?_;cases r with
 | error e=>exact H
 | ok O =>
  cases O with
  | ret x =>
   obtain ⟨a,rfl,rfl⟩:=H;have L:(s.heap.push (set0 a)).get? s.heap.objs.size=some (set0 a):=yan _ rfl;have M:Shared.TypeIs { s with heap:=s.heap.push (set0 a) } (.ref s.heap.objs.size) "set":=⟨_,L,rfl⟩;have i1:=cs.init.lookup;have i2:=cs.init.bind (.ref s.heap.objs.size)
   repeat (any_goals (first | assumption | wp_step))
   refine yea (codeAny_call_builtin (R:=wants (λr t=>r = .none/\∃ h' p,t = { s with heap:=h',toks:=p }/\Good n h'/\(∀ b o,s.heap.get? b=some o->h'.get? b=some o)) E)
    cs.init.plain F.entry_set_init (check_set_init_1 M ?_)) λB t d => ?_
   ·have ext:∀ b o,s.heap.get? b=some o->(s.heap.push (set0 a)).get? b=some o:=λb o e=>yad _ e;have V:=N { s with heap:=s.heap.push (set0 a) } ext;have Y:A.in1.in1.in1.handled=none:=by simp [hh]
    obtain ⟨y,St,go,W,st⟩:=it A.in1.in1.in1 { s with heap:=s.heap.push (set0 a) } Y ext;have sz:(s.heap.push (set0 a)).objs.size=s.heap.objs.size+1:=ybr ..;unfold Builtin.«set.__init__» noKeywords Builtin.Frozenset.updateFrom;generalize G:pyIter=PI
    wp_walk
    subst G;refine go _ _ _ ?_;refine yac (wpAny_runValue ?_);dsimp only at W st;refine loop_set (A:=A.in1.in1) W (λz => ?_) Good (λi h h' g k=>g1 i h h' g λb o hb e=>k b o (by rw [sz];exact hb) e) U (n - 0) 0 _ (by omega) (yaW _) st (g0 a y) λh' p D j => ?_
    ·rcases yaJ.mp z with z | z
     ·rw [sz] at z;exact absurd z (yay (ycq _))
     ·exact absurd (yai.mp z) (yby lt)
    ·refine yah ?_;refine yah ⟨rfl,h',p,rfl,j,λb o e => ?_⟩;have bl:=yar e;refine D b o (yay bl) ?_ (yad _ (ext b o e));rw [sz];exact yay (ybS bl)
   ·cases B with
    | error e=>exact d
    | ok u =>
     cases u with
     | ret r =>
      obtain ⟨rfl,h',p,rfl,j,D⟩:=d
      repeat (any_goals (first | assumption | wp_step))
      exact q _ _ D j
     | _=>exact d.elim
  | _=>exact H.elim
end
def SetSz (a:Addr) (n:Nat) (h:Heap):Prop:=∃ o es ep t,h.get? a=some o/\o.ExactSet/\o.data = .set es ep t/\t.fits es.size=true/\es.size=n
def setO (a:Addr) (n:Nat):HO := .ext (SetSz a n)
theorem setO_ok {P:yas} {w:yaS} {H:Hp} {h:Heap} {a:Addr} {n:Nat} (x:SetSz a n h):ObjOk P w H h a (setO a n):=by
 obtain ⟨o,es,ep,t,b,r⟩:=id x;exact ⟨x,⟨o,b⟩,(by rintro h1 h2 ⟨o,es,ep,t,b,r⟩ k;exact ⟨o,es,ep,t,k o b,r⟩)⟩
theorem ze9:isSubtype (.type "tuple") (.type "set")=pure false:=by rw [yeM];kernel_rfl
theorem zcP:isSubtype (.type "tuple") (.type "frozenset")=pure false:=by rw [yeM];kernel_rfl
section
variable {X:Cx}
theorem zc8:CallR X (.builtin "len") (λxs H Q=>∃ a n,xs = [.ref a]/\H a=some (setO a n)/\n<=1000/\Q (.int n) H):=by
 intro pins s i H xs us Q I r h;obtain ⟨a,n,rfl,e,g,q⟩:=h;obtain ⟨u,rfl,d⟩:=vals1 r;obtain rfl:u=yaq a:=d;obtain ⟨⟨o,es,ep,t,c,b,hd,f,rfl⟩,_⟩:=(show ObjOk X.prog X.w H s.heap a (setO a n) from I.hok a _ e);exact call_len_set c b hd f (by omega) ⟨.int es.size,H,I.tok _,⟨_,rfl⟩,q⟩
theorem call_setS (hc:X.calm=true):CallR X (.type "set") (λxs H Q=>∃ (p:Addr) (ys:List Str),xs = [.ref p]/\SqL X.K H p (ys.map V.str)/\ys.Nodup/\ys.length<=1000/\∀ l,H l=none->Q (.ref l) (upd H l (setO l ys.length))):=by
 intro pins s σ H xs us Q I r h;obtain ⟨p,ys,rfl,R,nd,hy,q⟩:=h;obtain ⟨u,rfl,Y⟩:=vals1 r;obtain rfl:u=yaq p:=Y;obtain ⟨c,L,pl,hz⟩:=I.list R;have D:c.length=ys.length:=by rw [<- L.length,yab]
 have M:=pl.isList;have lt:p < s.heap.objs.size:=let ⟨o,d,_⟩:=M;yar d;have a:∀ {h':Heap},(∀ b o,s.heap.get? b=some o->h'.get? b=some o)->h'.IsList p c.toArray:=λ{h'} k=>let ⟨o,d,r⟩:=M;⟨o,k _ _ d,r⟩;let Good:Nat->Heap->Prop:=λi h=>∃ e:Str->Bool,h.SetOf (PySem.strKind X.prog X.w) s.heap.objs.size e i/\∀ k,e k=true->k∈ys.take i;refine zeS (T := "list") (l:=p) (n:=ys.length) (Pv:=λi v=>c.toArray[i]? = some v) (I.ok.hd hc) PySem.F.sub_list_set PySem.F.sub_list_frozenset (by decide) (λB k=>let ⟨o,d,hcl,_⟩:=a k;⟨o,d,hcl⟩) lt
  (λA' B hh k => ?_) Good (λy oI => ?_) (λi h h' g k => ?_) (λi J v Z E2 hi U g q2 => ?_) λh' tk O g => ?_
 ·have ne:p≠B.heap.objs.size:=let ⟨o,d,_⟩:=a k;yay (yar d);have W:=Walks.list (prog:=X.prog) (w:=X.w) hh B.heap.objs.size p ne c.toArray;rw [show c.toArray.size=ys.length by simp [D]] at W;exact ⟨_,_,λA2 E2 Z z=>ydF (a k) z,W,⟨⟨_,yan _ rfl,rfl,rfl⟩,(a k).push _⟩⟩
 ·refine ⟨λ_=>false,?_,λk z=>nomatch z⟩;exact (setObjOf_fresh (knd:=PySem.strKind X.prog X.w) y).setOf (yad _ (yan _ rfl)) (by decide)
 ·obtain ⟨e,⟨o,es,ep,t,d,r⟩,m⟩:=g;exact ⟨e,⟨o,es,ep,t,k _ _ (yay (ycq _)) d,r⟩,m⟩
 ·obtain ⟨e,N,m⟩:=g;have A:c[i]? = some v:=by simpa using U
  have S:(ys.map V.str)[i]? = some (V.str ys[i]):=by rw [yaf,yaa hi];rfl
  obtain ⟨v',G,E⟩:=L.get S;rw [A] at G;cases G;obtain ⟨t,rfl⟩:=E;have fresh:e ys[i]=false:=by
   cases z:e ys[i] with
   | false=>rfl
   | true =>
    obtain ⟨j,hj,ej⟩:=ydT.mp (m _ z);have ji:=(yb4 (h₀:=by omega) (h₁:=hi) nd).mp ej;omega
  unfold setAdd;refine ya1 (yac (wpAny_pyHash_str ?_));refine wpAny_setAddHashed_of (knd:=PySem.strKind X.prog X.w) (s:={ J with toks:=J.toks+1 }) (strKind_is _ _ _ t) rfl N (by unfold scanBound;omega) λh' sb f => ?_;rw [fresh] at f ⊢;refine q2 h' _ sb ⟨_,f,λk z => ?_⟩;rw [yap hi];rcases Bool.or_eq_true_iff.mp z with z | z
  ·exact ybe _ (m k z)
  ·rw [of_decide_eq_true z];exact yaN _ (yai.mpr rfl)
 ·obtain ⟨e,⟨o,es,ep,t,d,C,hd,_,_,_,hf,hn⟩,_⟩:=g;exact ⟨.ref s.heap.objs.size,_,I.laid (t':=tk) O (yaj _) (setO_ok ⟨o,es,ep,t,d,C,hd,hf,hn⟩),rfl,q _ (I.hok.fresh (yaj _))⟩
end
section
variable {X:Cx}
theorem call_setT (hc:X.calm=true) (hu:X.A.units+4 < cLine):CallR X (.type "set") (λxs H Q=>∃ (p:Addr) (a:List Addr) (ks:List (List Key)),xs = [.ref p]/\SqT X.K H p (a.map V.ref)/\ks.length=a.length/\a.length<=4/\ks.Nodup /\
  (∀ (i:Nat) (q:Addr) (k:List Key),a[i]? = some q->ks[i]? = some k->H q=some (.tup (k.map kV)))/\∀ l,H l=none->Q (.ref l) (upd H l (setO l a.length))):=by
 intro pins s σ H xs us Q I r h;obtain ⟨p,a,ks,rfl,hq,ad,an,nd,M,q⟩:=h;obtain ⟨u,rfl,rx⟩:=vals1 r;obtain rfl:u=yaq p:=rx;obtain ⟨m,rv,pl,hz⟩:=I.tuple hq;have ac:m.length=a.length:=by rw [<- rv.length,yab]
 have lt:p < s.heap.objs.size:=let ⟨o,d,_⟩:=pl;yar d;have c:∀ {h':Heap},(∀ b o,s.heap.get? b=some o->h'.get? b=some o)->h'.IsTuple p m.toArray:=λ{h'} k=>let ⟨o,d,r⟩:=pl;⟨o,k _ _ d,r⟩;let knd:=zan X.prog X.w;have keys:∀ (i:Nat) (hi:i < a.length),IsTupleKey knd s.heap (ks[i]'(by omega)) a[i]/\a[i] < s.heap.objs.size:=λi hi=>by
  have t:=M i a[i] (ks[i]'(by omega)) (yaa hi) (yaa (by omega));exact ⟨zdq I.hok t,I.hok.lt t⟩
 let Good:Nat->Heap->Prop:=λi h=>(∃ es ep t,SH knd h s.heap.objs.size es ep t/\es.size=i/\∀ e∈es.toList,∃ (j:Nat) (F:j < a.length),j < i/\e=(ybI knd (ks[j]'(by omega)),yaq a[j])) /\
  ∀ (i:Nat) (hi:i < a.length),IsTupleKey knd h (ks[i]'(by omega)) a[i]
 refine zeS (T := "tuple") (l:=p) (n:=a.length) (Pv:=λi v=>m.toArray[i]? = some v) (I.ok.hd hc) ze9 zcP (by decide) (λs' k=>let ⟨o,d,hcl,_⟩:=c k;⟨o,d,hcl⟩) lt
  (λA' s' hh k => ?_) Good (λE oI => ?_) (λi h h' g k => ?_) (λi s2 v Q2 E2 hi hv g q2 => ?_) λh' D kp g => ?_
 ·have ne:p≠s'.heap.objs.size:=let ⟨o,d,_⟩:=c k;yay (yar d);have W:=Walks.tuple (prog:=X.prog) (w:=X.w) hh s'.heap.objs.size p ne m.toArray;rw [show m.toArray.size=a.length by simp [ac]] at W;exact ⟨_,_,λA2 E2 Q2 z=>yfo (c k) z,W,⟨⟨_,yan _ rfl,rfl,rfl⟩,(c k).push _⟩⟩
 ·have e0:((s.heap.push (set0 E)).push oI).get? s.heap.objs.size=some (set0 E):=yad _ (yan _ rfl);refine ⟨⟨#[],0,.fresh 0 0 E,⟨⟨_,e0,⟨rfl,rfl,rfl⟩,rfl⟩,⟨rfl,rfl,show (0:Nat)<=5 by decide⟩,rfl,λe B=>by simp at B⟩,rfl,λe B=>by simp at B⟩,λi hi => ?_⟩;obtain ⟨o,L,n,d,r⟩:=(keys i hi).1;exact ⟨o,L,n,yad _ (yad _ d),r⟩
 ·obtain ⟨⟨es,ep,t,S,sz,f⟩,D⟩:=g;have C:∀ (i:Nat) (hi:i < a.length),IsTupleKey knd h' (ks[i]'(by omega)) a[i]:=λi hi=>by
   obtain ⟨o,L,n,d,r⟩:=D i hi;exact ⟨o,L,n,k _ _ (yay (ybS (keys i hi).2)) d,r⟩
  obtain ⟨o,d,r⟩:=S.ob;refine ⟨⟨es,ep,t,⟨⟨o,k _ _ (yay (ycq _)) d,r⟩,S.tb,S.sz,λe B => ?_⟩,sz,f⟩,C⟩;obtain ⟨j,F,_,J⟩:=f e B;exact ⟨_,_,J,C j F⟩
 ·obtain ⟨⟨es,ep,t,S,sz,f⟩,D⟩:=g;have Z:m[i]? = some v:=by simpa using hv
  have qi:(a.map V.ref)[i]? = some (V.ref a[i]):=by rw [yaf,yaa hi];rfl
  obtain ⟨v',e',U⟩:=rv.get qi;rw [Z] at e';cases e';obtain rfl:v=yaq a[i]:=U;refine add_tuple (k:=ks[i]'(by omega)) S (by omega) (D i hi) (by show X.A.units+1+1+1 < cLine;omega) (λk' y me ab => ?_) λh' C Y R t' sb S' as G _ => ?_
  ·obtain ⟨j,F,ji,J⟩:=f _ me;injection J with _ ey;injection ey with ey;subst ey;have:=ab.inj (D j F);rw [this];intro z;have:=(yb4 (h₀:=by omega) (h₁:=by omega) nd).mp z;omega
  ·have N:∀ (i:Nat) (hi:i < a.length),IsTupleKey knd h' (ks[i]'(by omega)) a[i]:=λi hi=>by
    obtain ⟨o,L,n,d,r⟩:=D i hi;exact ⟨o,L,n,(sb.2 _ (yay (keys i hi).2)).trans d,r⟩
   refine q2 h' C sb ⟨⟨Y,R,t',S',by omega,λe B => ?_⟩,N⟩;rcases G e B with B | rfl
   ·obtain ⟨j,F,ji,J⟩:=f e B;exact ⟨j,F,by omega,J⟩
   ·exact ⟨i,hi,by omega,rfl⟩
 ·obtain ⟨⟨es,ep,t,S,sz,_⟩,_⟩:=g;obtain ⟨o,d,O,hd⟩:=S.ob;exact ⟨.ref s.heap.objs.size,_,I.laid (t':=D) kp (yaj _) (setO_ok ⟨o,es,ep,t,d,O,hd,S.tb.fits S.sz,sz⟩),rfl,q _ (I.hok.fresh (yaj _))⟩
end
theorem zfS:ye5 (.type "tuple") "keys" = pure none:=by rw [yep,ycO];kernel_rfl
section
variable {P:yas} {w:yaS} {A:yaM} {E:yae->yag->Prop} {s:yag} {a:Addr} {o:Obj} {xs:Array yae} {n:Nat}
theorem no_keys {Q:Option yae->yag->Prop} (l:s.heap.get? a=some o) (hc:o.cls = .type "tuple") (f:o.data = .seq xs n) (hd:o.dict=none) (p:A.handled=none)
  (q:∀ h' k,(∀ b u,s.heap.get? b=some u->h'.get? b=some u)->Q none { s with heap:=h',toks:=k }):wpAny (model P w) A (getAttr? (.ref a) "keys") Q E s:=by
 obtain ⟨c,t,y,v⟩:=o;dsimp only at hc f hd;subst hc f hd;obtain ⟨r,g,d,k,os⟩:=s;have j:∀ i,(⟨r,g,d,i,os⟩:yag).TypeIs (.ref a) "tuple":=λ_=>⟨_,l,rfl⟩;have D:=sub_AttributeError;have z:=F.slot_tuple_getattribute.lookup;have H:=F.slot_tuple_getattribute.bind (.ref a);have C:=am_tuple_getattr_none;unfold getAttr? getAttrBy? getAttrBy
 repeat (any_goals (first | assumption | exact j _ | ((with_reducible show wpAny _ _ (call (Value.builtin "tuple.__getattribute__") _ _) _ _ _);refine call_meets ydU (j _) am_entry_tuple_getattribute (F.args_tuple_getattribute_2 _ _) (meets_getattribute_miss_tuple a xs n v "keys" _ zfS (by decide) (zah (by decide +kernel))) ⟨l,p,λh' m e h => ?_⟩) | wp_step))
 obtain ⟨G,I,B⟩:=h.there;show wpAny _ _ (getattributeRaised _ _ _ _ _ _ _) _ _ _;unfold getattributeRaised
 repeat (any_goals (first | assumption | wp_step))
 exact q _ _ h.keeps
end
theorem zdc:entryFor table "dict.update.loop" = some Builtin.«dict.update.loop»:=entryFor_of_tree (by kernel_rfl)
theorem zbB:plainId "dict.update.loop" = true:=by decide +kernel
section
variable {P:yas} {w:yaS} {A:yaM} {E:yae->yag->Prop} {s:yag} {κ:Type} [DecidableEq κ] {knd:PySem.KeyKind P w κ}
def zhL (knd:PySem.KeyKind P w κ) (h:Heap) (a:Addr) (kx:κ×yae):Prop:=∃ o key n,h.get? a=some o/\o.cls = .type "tuple"/\o.data = .seq #[key,kx.2] n/\knd.is kx.1 key=true
theorem loop_dict {R:Result->yag->Prop} {I d:Addr} {Z:List Addr} {St:Nat->Heap->Prop} {f:List Addr} {kvs:List (κ×yae)} (W:Walks P w A.in1 I Z [I] f.length (λi v=>(f[i]?).map yaq=some v) St) (hd:d∉Z) (E:d≠I)
  (F:kvs.length=f.length) (ab:f.length<=1000) (nd:(kvs.map (·.1)).Nodup) :
  ∀ (k i:Nat) (l:Tok) (s:yag),f.length - i=k->i<=f.length->St i s.heap->s.heap.DictOf knd d (kvs.take i) ->
   (∀ (j:Nat) (q:Addr) (h:κ×yae),f[j]? = some q->kvs[j]? = some h->zhL knd s.heap q h/\q≠I/\q≠d) ->
   (∀ h' M,(∀ b o,b≠d->b≠I->s.heap.get? b=some o->h'.get? b=some o)->h'.DictOf knd d kvs->R (.ok (.ret .none)) { s with heap:=h',toks:=M }) ->
   yeg (model P w) A (.builtin "dict.update.loop" ⟨[.ref d,.ref I,.int i l,.none],[]⟩) R s:=by
 intro k
 induction k with
 | zero =>
  intro i l s hk hi st D p q;obtain rfl:i=f.length:=by omega
  refine yck zdc ?_;rw [ybF zbB _];refine yac (W.done s _ _ st λh' M t => ?_);have D':h'.DictOf knd d kvs:=by
   rw [<- F,yaG] at D;obtain ⟨o,es,ep,g,r⟩:=D;exact ⟨o,es,ep,t _ _ (by simpa using E) g,r⟩
  dsimp only;unfold Builtin.Dict.addKeywords;rw [ydV];refine yac (yac (yah (yah ?_)));exact yah (q h' M (λb o _ G e=>t b o (by simpa using G) e) D')
 | succ k ih =>
  intro i l s hk hi st D p q;have lt:i < f.length:=by omega
  refine yck zdc ?_;rw [ybF zbB _];refine yac (W.item i s _ _ lt st λv h1 m S Q t => ?_);have B:i < kvs.length:=by omega
  rw [yaa lt] at S;obtain rfl:yaq f[i]=v:=by simpa using S
  have c:∀ {a:Addr} {h:κ×yae},a≠I->zhL knd s.heap a h->zhL knd h1 a h:=λ{a h} ne ⟨o,key,n,g,r⟩=>⟨o,key,n,t _ _ (by simpa using ne) g,r⟩;obtain ⟨pr,n1,n2⟩:=p i f[i] kvs[i] (yaa lt) (yaa B);obtain ⟨o,key,n,g,hc,L,C⟩:=c n1 pr;have D1:h1.DictOf knd d (kvs.take i):=let ⟨o,es,ep,g,r⟩:=D;⟨o,es,ep,t _ _ (by simpa using E) g,r⟩;have fresh:stored (kvs.take i) kvs[i].1 kvs[i].2=kvs.take (i+1):=by
   unfold stored;rw [if_neg ?_,yap B];intro z;obtain ⟨x,hx,ex⟩:=yd1.mp z;obtain ⟨j,hj,ej⟩:=ydT.mp hx;have e1:(kvs.map (·.1))[j]'(by simp;omega)=(kvs.map (·.1))[i]'(by simp;omega):=by
    rw [ybl,ybl,ej];exact of_decide_eq_true ex
   have:=(yb4 (h₀:=by simp;omega) (h₁:=by simp;omega) nd).mp e1;omega
  refine yac (ya1 (yac (wpAny_tryCatch ?_)));unfold Builtin.Dict.pairItems;refine yac (ydt (T := "tuple") (s:={ s with heap:=h1,toks:=m }) ⟨o,g,hc⟩ ?_);rw [if_pos (by decide)];refine yac (yb0 (s:={ s with heap:=h1,toks:=m }) g L (yah ?_));show wpAny _ _ (holding [key,kvs[i].2] (dictSet d key kvs[i].2)) _ _ _;refine ya1 (wpAny_dictSet_pairs (s:={ s with heap:=h1,toks:=m }) C D1 (λh2 V O => ?_) (zah (by rw [yaA];omega)));rw [fresh] at V;refine yah ⟨yeo zbB _,ih (i+1) _ _ (by omega) lt (W.frame _ h1 h2 Q λb hb u e=>(O.2 b λz=>hd (z ▸ hb)).trans e) V (λj q0 h e1 e2 => ?_) λh3 J H D3 => ?_⟩
  ·obtain ⟨p1,m1,Y⟩:=p j q0 h e1 e2;obtain ⟨o',y,n',N,r'⟩:=c m1 p1;exact ⟨⟨o',y,n',(O.2 _ Y).trans N,r'⟩,m1,Y⟩
  ·refine q h3 J (λb u U G e=>H b u U G ?_) D3;exact (O.2 b U).trans (t b u (by simpa using G) e)
end
section
variable {X:Cx}
theorem zfq:CallR X (.type "tuple") (λxs H Q=>∃ (p:Addr) (ys:List V),xs = [.ref p]/\SqL X.K H p ys/\∀ (l:Addr) (o:Obj),H l=none->o.cls = .type "tuple"->o.dict=none->Q (.ref l) (upd H l (.frz o (.tup ys)))):=by
 intro pins s g H xs us Q I r h;obtain ⟨p,ys,rfl,k,q⟩:=h;obtain ⟨u,rfl,n⟩:=vals1 r;obtain rfl:u=yaq p:=n;obtain ⟨a,c,pl,hz⟩:=I.list k;have d:=c.length;refine call_tuple_list pl.isList (λh' j => ?_) (by simp only [yaE] <;> omega);have i:Inv X pins g H { s with heap:=h' }:=I.kept (t':=s.toks) j;let o:Obj:={ cls := .type "tuple",data := .seq a.toArray };have f:(h'.push o).get? h'.objs.size=some o:=yan _ rfl;have m:Inv X pins g (upd H h'.objs.size (.frz o (.tup ys))) { s with heap:=h'.push o } :=
  i.laid (t':=s.toks) (λb u e=>yad _ e) (yaj _) (show ObjOk X.prog X.w _ _ _ (.frz o (.tup ys)) from ⟨f,hz,a,c,⟨o,f,rfl,_,rfl⟩⟩)
 exact ⟨.ref h'.objs.size,_,m,rfl,q _ _ (i.hok.fresh (yaj _)) rfl rfl⟩
theorem zh3 {P:yas} {w:yaS} {H:Hp} {h:Heap} (ok:HOk P w H h):∀ {c:List Addr} {kvs:List (Key×V)},kvs.length=c.length ->
  (∀ (i:Nat) (q:Addr) (b:Key×V),c[i]? = some q->kvs[i]? = some b->H q=some (.tup [kV b.1,b.2])) ->
  ∃ vs:List (Key×yae),KV kvs vs/\∀ (i:Nat) (q:Addr) (b:Key×yae),c[i]? = some q->vs[i]? = some b->zhL (zan P w) h q b
 | [],[],_,_=>⟨[],.nil,λi q b e=>by simp at e⟩
 | [],_ :: _,hl,_=>nomatch hl
 | _ :: _,[],hl,_=>nomatch hl
 | q0 :: c,(k0,v0) :: kvs,hl,t=>by
  obtain ⟨vs,r,a⟩:=zh3 ok (yb5 hl) λi q b e1 e2=>t (i+1) q b e1 e2;obtain ⟨_,f,k,o,d,hc,n,hd⟩:=(show ObjOk P w H h q0 (.tup [kV k0,v0]) from ok _ _ (t 0 q0 (k0,v0) rfl rfl));obtain ⟨key,val,rfl,g,j⟩:=vals2 k;refine ⟨(k0,val) :: vs,.cons ⟨rfl,j⟩ r,λi q b e1 e2 => ?_⟩;cases i with
  | zero =>
   cases e1;cases e2;exact ⟨o,key,n,d,hc,hd,kV_is g⟩
  | succ i=>exact a i q b e1 e2
theorem ziE (hc:X.calm=true):CallR X (.type "dict") (λxs H Q=>∃ (p:Addr) (o:Obj) (c:List Addr) (kvs:List (Key×V)),xs = [.ref p]/\H p=some (.frz o (.tup (c.map V.ref)))/\o.cls = .type "tuple"/\o.dict=none/\kvs.length=c.length/\c.length<=1000 /\
  (kvs.map (·.1)).Nodup/\(∀ (i:Nat) (q:Addr) (S:Key×V),c[i]? = some q->kvs[i]? = some S->H q=some (.tup [kV S.1,S.2]))/\∀ l,H l=none->Q (.ref l) (upd H l (.dK kvs))):=by
 intro pins s σ H xs us Q I r h;obtain ⟨p,o,c,kvs,rfl,hp,D,Z,g,R,nd,N,q⟩:=h;obtain ⟨u,rfl,rx⟩:=vals1 r;obtain rfl:u=yaq p:=rx;obtain ⟨G,hz,f,rv,⟨o',ah,_,n,U⟩⟩:=(show ObjOk X.prog X.w H s.heap p (.frz o (.tup (c.map V.ref))) from I.hok _ _ hp);obtain rfl:o=o':=yaz (G.symm.trans ah);obtain ⟨vs,kv,pa⟩:=zh3 I.hok g N;have C:vs.length=c.length:=by rw [<- g];exact (yaC kv).symm
 have keys:vs.map (·.1)=kvs.map (·.1):=by
  clear pa nd N q g C R
  induction kv with
  | nil=>rfl
  | cons a _ ih=>rw [yaw,yaw,ih,a.1]
 have hh:=I.ok.hd hc;let d:=s.heap.objs.size;let O:Obj:={ cls := .type "dict",data := .dict #[] };refine callType_codes (Q₁:=λx B=>x = .ref d/\B = { s with heap:=s.heap.push O }) PySem.F.kt_called_dict (PySem.F.kt_typeCall_dict_1 _) PySem.F.entry_dict_init (kt_code_dict_new _ ⟨rfl,rfl⟩) ?_;rintro x B ⟨rfl,rfl⟩;have Y:(s.heap.push O).DictOf (zan X.prog X.w) d []:=Heap.DictOf.new s.heap;refine ⟨Y.typeIs,PySem.F.args_dict_init_2 _ _,?_⟩;unfold Builtin.«dict.__init__»;refine yac ?_;unfold Builtin.Dict.selfAndRest;refine yac (ydA Y.typeIs ?_);show wpAny _ _ (pure (d,[yaq p])) _ _ _;refine yah ?_;show wpAny _ _ (Builtin.Dict.updateFrom "dict.__init__" d (.ref p) [] .none) _ _ _;unfold Builtin.Dict.updateFrom;have t:(s.heap.push O).get? p=some o:=yad _ G;refine yac (ydt (T := "tuple") ⟨o,t,D⟩ ?_);rw [if_pos (by decide)];refine yac (no_keys t D U Z (by simpa using hh) λh2 ar m => ?_);rw [if_pos (show (none:Option yae).isNone=true from rfl)];refine yac (yed ?_);have L:h2.IsTuple p f.toArray:=⟨o,m _ _ t,D,n,U⟩;refine yac (yfo L ?_);have J:d < h2.objs.size:=let ⟨o,es,ep,G,_⟩:=Y;yar (m _ _ G);have ai:p < s.heap.objs.size:=yar G;have ne:p≠h2.objs.size:=yay (yar (m _ _ t));have W:=Walks.tuple (prog:=X.prog) (w:=X.w) (A:=X.A.in1.in1) (by simpa using hh) h2.objs.size p ne f.toArray;have il:f.length=c.length:=by rw [<- rv.length,yab]
 have ag:∀ (i:Nat) (v:yae),f.toArray[i]? = some v->(c[i]?).map yaq=some v:=λi v e=>by
  have e':f[i]? = some v:=by simpa using e
  have hi:i < c.length:=by rw [<- il];exact (yav.mp e').1
  obtain ⟨v',e2,ad⟩:=rv.get (x:=V.ref c[i]) (i:=i) (by rw [yaf,yaa hi];rfl);rw [e'] at e2;cases e2;obtain rfl:v=yaq c[i]:=ad;rw [yaa hi];rfl
 have W2:Walks X.prog X.w X.A.in1.in1 h2.objs.size [h2.objs.size,p] [h2.objs.size] c.length (λi v=>(c[i]?).map yaq=some v) (λi h=>h.IsTupleIter h2.objs.size p i/\h.IsTuple p f.toArray):=by
  rw [show f.toArray.size=c.length by simp [il]] at W;exact ⟨W.sub,W.frame,λi s Q E hi st k=>W.item i s Q E hi st λv h' tk e ab kp=>k v h' tk (ag i v e) ab kp,W.done,W.self⟩
 refine yah ⟨yeo zbB _,loop_dict (knd:=zan X.prog X.w) (kvs:=vs) W2 (λz => ?_) (yay J) C R (by rw [keys];exact nd) (c.length - 0) 0 _ _ (by omega) (yaW _)
  ⟨⟨_,yan _ rfl,rfl,rfl⟩,L.push _⟩ ?_ (λj q0 S e1 e2 => ?_) λh3 af ae D3 => ?_⟩
 ·rcases yaJ.mp z with z | z
  ·exact yay J z
  ·exact yby ai (yai.mp z)
 ·obtain ⟨o1,es,ep,y,r1⟩:=Y;exact ⟨o1,es,ep,yad _ (m _ _ y),r1⟩
 ·obtain ⟨o1,key,n1,y,r1⟩:=pa j q0 S e1 e2;have l1:=yar y;have M:=m _ _ (yad O y);exact ⟨⟨o1,key,n1,yad _ M,r1⟩,yay (yar M),yay l1⟩
 ·refine ⟨rfl,.ref d,_,I.laid (h':=h3) (t':=af) (λb u e => ?_) (yaj _) (show ObjOk X.prog X.w _ h3 d (.dK kvs) from ⟨?_,?_,vs,kv,D3⟩),rfl,q _ (I.hok.fresh (yaj _))⟩
  ·have M:=m _ _ (yad O e);exact ae b u (yay (yar e)) (yay (yar M)) (yad _ M)
  ·rw [g];exact zah (by omega)
  ·exact beq_eq_false_iff_ne.mpr (yby I.big)
end
section
variable {X:Cx} {pins:List (Addr×Obj)} {σ:St} {H:Hp} {s:yag} {h':Heap}
theorem Inv.turned2 {t':Nat} {i1 i2:Addr} (I:Inv X pins σ H s) (k:∀ b o,b≠i1->b≠i2->s.heap.get? b=some o->h'.get? b=some o) (a:FpOk X pins H i1) (d:FpOk X pins H i2):Inv X pins σ H { s with heap:=h',toks:=t' }:=by
 have h:∀ b u,H b=some u->b≠i1:=λb u e z=>by rw [z,a.1] at e;cases e
 have g:∀ b u,H b=some u->b≠i2:=λb u e z=>by rw [z,d.1] at e;cases e
 have f:∀ b o,b ∉ [i1,i2]->s.heap.get? b=some o->h'.get? b=some o:=λb o hc e=>k b o (λz=>hc (by simp [z])) (λz=>hc (by simp [z])) e;refine I.step (g':=s.gens) (d':=s.drawn) (ch := [i1,i2]) (λb l => ?_) (λb o _ _ hc e _=>f b o hc e) (λb o _ _ hc e _=>⟨o.slots,f b o hc e⟩) (λ_ _ _ _ n=>n)
  (λb o hc e=>⟨o,f b o hc e⟩) (λ_ _ e=>e) (λ_ _ _ e=>e) (λb ps e=>⟨#[],by rw [e];simp⟩) (λm j => ?_) (λb u e => ?_) I.bare
 ·have e:b=i1\/b=i2:=by simpa using l
  rcases e with e | e
  ·subst e;exact ⟨a.2.2.2.1,a.2.1,a.2.2.2.2.1,a.2.2.2.2.2⟩
  ·subst e;exact ⟨d.2.2.2.1,d.2.1,d.2.2.2.2.1,d.2.2.2.2.2⟩
 ·obtain ⟨o,es,ep,i,r⟩:=j;exact ⟨o,es,ep,k _ o (ybt a.2.1) (ybt d.2.1) i,r⟩
 ·refine (I.hok b u e).stay (λc v hc q => ?_) (λ_ q=>q) λ_ _ q=>q;rcases hc with z | z
  ·subst z;exact k c v (h c u e) (g c u e) q
  ·exact k c v (h c _ z) (g c _ z) q
end
def Ite (K:PySem.W.Frag) (l:Addr):It :=
 ⟨λi H=>∃ xs x,SqL K H l xs/\xs[i]? = some x,λi H x H'=>∃ t y,H t=none/\x = .ref t/\H'=upd H t (.tup [.int i,y])/\∀ xs,SqL K H l xs->xs[i]? = some y,λi H=>∃ xs,SqL K H l xs/\xs.length<=i⟩
theorem turn_enum {P:yas} {w:yaS} {K:PySem.W.Frag} {elts:List Expr} {x1:Nat} {pos:Pos} (l e it:Addr) (n:e≠it):Turn P w K (.Tuple elts x1 pos) (Ite K l) [e,it] e (λi h=>(∃ old,IsEnum h e it i old)/\h.IsListIter it l i) where
 mem:=by simp
 obj:=λi h st b g=>by
  have B:b=e\/b=it:=by simpa using g
  rcases B with rfl | rfl
  ·obtain ⟨⟨old,st⟩,_⟩:=st;exact ⟨_,st,λv z=>by cases z⟩
  ·obtain ⟨_,o,e,c,d⟩:=st;exact ⟨o,e,λv z=>by rw [d] at z;cases z⟩
 keep:=(by rintro i h h' ⟨⟨old,st⟩,a⟩ k;exact ⟨⟨old,k e (by simp) _ st⟩,a.at λo z=>k it (by simp) o z⟩)
 item:=by
  intro X C hw R hc i pins s N H E I t st O;subst C hw R;obtain ⟨xs,x,q,L⟩:=O;obtain ⟨J,S,p,hz⟩:=I.list q;obtain ⟨u,hu,ru⟩:=S.get L;obtain ⟨⟨old,f⟩,a⟩:=st;have V:=t e (by simp);have U:=t it (by simp);refine wpAny_pyNext_enum_item f a p.isList (x:=u) (by simpa using hu) n λh1 out Q ht sz Y=>⟨_,rfl,?_⟩;refine wpAny_letOwnedTupleGo_enum (s:={ s with heap:=h1,toks:=s.toks+1 }) out λh2 G M => ?_;have m:e < s.heap.objs.size:=yar f;have j:it < s.heap.objs.size:=let ⟨o,A,_⟩:=a;yar A;let T:Obj:={ cls := .type "tuple",data := .seq #[.int i s.toks,u] };have I1:Inv X pins N (upd H s.heap.objs.size (.tup [.int i,x])) { s with heap:=s.heap.push T,toks:=s.toks } :=
   I.laid (λb o z=>yad _ z) (yaj _) (show ObjOk X.prog X.w _ _ _ (.tup [.int i,x]) from ⟨zah (show 2<=100000 by decide),[.int i s.toks,u],.cons ⟨_,rfl⟩ (.cons ru .nil),IsTup.new _ _⟩)
  have y:∀ b,b < s.heap.objs.size->FpOk X pins H b->FpOk X pins (upd H s.heap.objs.size (.tup [.int i,x])) b:=λb g F=>⟨by rw [zaf (yay g)];exact F.1,F.2⟩;have Z:Inv X pins N (upd H s.heap.objs.size (.tup [.int i,x])) { s with heap:=h2,toks:=s.toks+1 } :=
   Inv.turned2 (s:={ s with heap:=s.heap.push T,toks:=s.toks }) (t':=s.toks+1) (i1:=e) (i2:=it) I1 (λb o D b2 z=>by
    rcases Heap.get?_push_cases z with ⟨rfl,rfl⟩ | z'
    ·exact (M.2 _ D).trans ht
    ·exact (M.2 _ D).trans (Y b o D b2 z')) (y e m V) (y it j U)
  refine ⟨.ref s.heap.objs.size,_,Z,rfl,⟨_,x,I.hok.fresh (yaj _),rfl,rfl,λys hy=>by rw [I.list_inj hy q];exact L⟩,⟨⟨_,by simpa using G⟩,?_⟩,λb g => ?_⟩
  ·obtain ⟨o,A,r⟩:=Q;exact ⟨o,(M.2 _ (ybt n)).trans A,r⟩
  ·have B:b=e\/b=it:=by simpa using g
   rcases B with rfl | rfl
   ·exact (y _ m V).1
   ·exact (y _ j U).1
 done:=by
  intro X C hw R hc i pins s N H E I t st O;subst C hw R;obtain ⟨xs,q,L⟩:=O;obtain ⟨J,S,p,hz⟩:=I.list q;obtain ⟨⟨old,f⟩,a⟩:=st;obtain ⟨f0,f1,f2,f3,f4,f5⟩:=t it (by simp);have hl:=S.length;exact wpAny_pyNext_enum_end (I.ok.hd hc) f a p.isList (by simp;omega) λh' eb=>⟨rfl,I.turned (t':=s.toks) (λb o g e=>eb b o g e) f0 f1 f3 f4 f5⟩
 self:=λ_ _ _ _ _ st h=>let ⟨⟨_,z⟩,_⟩:=st;wpAny_pyIter_enum z h
theorem zgD:ybf "enumerate" = some (.type "enumerate"):=by decide +kernel
def iEnum (K:PySem.W.Frag) (ta:TA):TI:=λσ H R=>ta σ H λvs H1=>∃ l,vs = [.ref l]/\(∃ xs,SqL K H1 l xs)/\R (Ite K l) H1
theorem zg4 {X:Cx} {K:PySem.W.Frag} {elts:List Expr} {x1:Nat} {f:Pos} {a:Expr} {m:TA} {p pos:Pos} (E:X.K=K) (C:Gl X "enumerate") (z:X.mg "enumerate" = none) (D:PA X [a] m) (hs:yaZ [a] X.env = [(false,eval a X.env)]:=by rfl) :
  PI X (.Tuple elts x1 f) (.Call (.Name "enumerate" p) [a] [] pos) (iEnum K m):=by
 subst E;intro pins s B H R I h;refine Call_ (zdh I C z zgD (ybp (thn (D pos pins s B H _ I h) λus c k => ?_) hs rfl));obtain ⟨vs,n,i,v,A⟩:=k;obtain ⟨l,e,⟨xs,u⟩,q⟩:=A;subst e;cases v with
 | cons r t =>
  cases t;obtain rfl:_=yaq l:=r;obtain ⟨y,F,pl,hz⟩:=i.list u;refine call_enumerate_list pl.isList λh' d j sz o => ?_;refine wpAny_pyIter_enum (s:={ c with heap:=h' }) d ?_;have fr:∀ b,c.heap.objs.size<=b->FpOk X pins n b:=λb g=>i.fpOk g (i.hok.fresh g);refine ⟨c.heap.objs.size+1,[c.heap.objs.size+1,c.heap.objs.size],_,_,n,rfl,i.kept (t':=c.toks) o,turn_enum l _ _ (yby (ycq _)),⟨⟨_,d⟩,j⟩,λb g => ?_,q⟩;have e:b=c.heap.objs.size+1\/b=c.heap.objs.size:=by simpa using g
  rcases e with e | e
  ·exact fr b (by rw [e];exact yda _)
  ·exact fr b (by rw [e];exact yaj _)
theorem zia {K:PySem.W.Frag} {a:Addr} {xs:List V} {g:TG} {f:TS} {D:Ends} {b:St} {H:Hp} (Pv:Nat->St->Hp->Prop) (k:Pv 0 b H) (n:∀ i b H,i<=xs.length->Pv i b H->SqL K H a xs)
  (hs:∀ i x t b H,xs[i]? = some x->Pv i b H->H t=none->g (.ref t) b (upd H t (.tup [.int i,x])) λc e=>f { D with nx:=Pv (i+1),ct:=Pv (i+1),bk:=D.nx } c e) (hd:∀ b H,Pv xs.length b H->D.nx b H) :
  ∃ W:Nat->Nat->St->Hp->Prop,(∃ m,W 0 m b H)/\∀ i m b H,W i m b H ->
   ((Ite K a).stop i H/\D.nx b H)\/((Ite K a).go i H/\∃ N:St->Hp->Prop,(∀ d H',N d H'->∃ h,h < m/\W (i+1) h d H')/\∀ x H',(Ite K a).yld i H x H'->g x b H' λc e=>f { D with nx:=N,ct:=N,bk:=D.nx } c e):=by
 refine ⟨λi m b H=>m=xs.length - i/\i<=xs.length/\Pv i b H,⟨xs.length,by simp,yaW _,k⟩,?_⟩;rintro i m b H ⟨rfl,hi,p⟩;have q:=n i b H hi p;by_cases lt:i < xs.length
 ·refine .inr ⟨⟨xs,xs[i],q,by simp [lt]⟩,Pv (i+1),λd H' j=>⟨xs.length - (i+1),by omega,rfl,lt,j⟩,?_⟩;rintro x H' ⟨t,y,l,rfl,rfl,o⟩;exact hs i y t b H (o xs q) p l
 ·obtain rfl:i=xs.length:=by omega
  exact .inl ⟨⟨xs,q,yaj _⟩,hd b H p⟩
theorem zhG:∀ {a:List String} {us:List yae},Vals (a.map V.ty) us->us=a.map ycn
 | [],_,.nil=>rfl
 | _ :: _,_,.cons r q=>by rw [zhG q];cases r;rfl
theorem ziw {X:Cx} {K:PySem.W.Frag} (D:X.K=K):CallR X (.builtin "isinstance") (λxs H Q=>∃ (x:V) (tp:Addr) (t:yae) (b:Bool) (e:List String),xs = [x,.ref tp]/\H tp=some (.tup (e.map V.ty))/\TyOf K H x t/\PySem.W.kitAny K t (e.map ycn)=some b/\Q (.bl b) H):=by
 subst D;intro pins s u H xs us Q I r h;obtain ⟨x,tp,t,b,e,rfl,l,ty,c,q⟩:=h;obtain ⟨v,E,rfl,d,g⟩:=vals2 r;cases g;obtain ⟨_,j,B,ob,e1,e2,n,e3⟩:=I.hok tp _ l;have m:=zhG B;subst m;obtain ⟨G,od,A,k⟩:=ob;cases e2;cases e3;have fin:∀ f,EP X pins u Q (.bool b) { s with toks:=f }:=λf=>⟨.bl b,H,I.tok f,rfl,q⟩;cases ty with
 | non=>cases (show v=ycm from d);exact ybM PySem.W.kitx_none I.kIn ybA e1 c (λz=>nomatch z) fin
 | bl y=>cases (show v=ydm y from d);exact ybM PySem.W.kitx_bool I.kIn ybA e1 c (λz=>nomatch z) fin
 | int i=>obtain ⟨t,z⟩:=(show ∃ t,v=ycI i t from d);cases z;exact ybM PySem.W.kitx_int I.kIn ybA e1 c (λz=>nomatch z) fin
 | str y=>obtain ⟨t,z⟩:=(show ∃ t,v=ydj y t from d);cases z;exact ybM PySem.W.kitx_str I.kIn ybA e1 c (λz=>nomatch z) fin
 | flt y=>obtain ⟨t,z⟩:=(show ∃ t,v=Value.float y t from d);cases z;exact ybM PySem.W.kitx_float I.kIn ybA e1 c (λz=>nomatch z) fin
 | @lst a xs ea =>
  cases (show v=yaq a from d);obtain ⟨_,_,n,_,h1⟩:=(show ObjOk X.prog X.w H s.heap a (.lst xs) from I.hok a _ ea);exact ybM yeA I.kIn ⟨_,h1,rfl⟩ e1 c (λz=>nomatch z) fin
 | @frz a ob xs ea =>
  cases (show v=yaq a from d);obtain ⟨_,_,_,n,_,h1⟩:=(show ObjOk X.prog X.w H s.heap a (.frz ob (.lst xs)) from I.hok a _ ea);exact ybM yeA I.kIn ⟨_,h1,rfl⟩ e1 c (λz=>nomatch z) fin
 | @tup a xs ea =>
  cases (show v=yaq a from d);obtain ⟨_,_,_,p⟩:=(show ObjOk X.prog X.w H s.heap a (.tup xs) from I.hok a _ ea);obtain ⟨o,h1,h2,_⟩:=p;exact ybM PySem.W.kitx_tuple I.kIn ⟨o,h1,h2⟩ e1 c (λz=>nomatch z) fin
 | @dK a kvs ea =>
  cases (show v=yaq a from d);obtain ⟨_,_,vs,_,p⟩:=(show ObjOk X.prog X.w H s.heap a (.dK kvs) from I.hok a _ ea);obtain ⟨o,es,ep,h1,h2,_⟩:=p;exact ybM yeB I.kIn ⟨o,h1,h2.1⟩ e1 c (λz=>nomatch z) fin
 | @dT a kvs ea =>
  cases (show v=yaq a from d);obtain ⟨_,_,xs,_,o,es,ep,h1,h2,_⟩:=(show ObjOk X.prog X.w H s.heap a (.dT kvs) from I.hok a _ ea);exact ybM yeB I.kIn ⟨o,h1,h2.1⟩ e1 c (λz=>nomatch z) fin
 | @ins a C dx fs ea cl ha hn htk hm =>
  cases (show v=yaq a from d);obtain ⟨F,O,_⟩:=zes I.hok ea;obtain ⟨od,J,_⟩:=O.look;exact ybM (PySem.W.kitx_own (cl.get _) cl.hd ha hn htk hm) I.kIn J e1 c (λz=>nomatch z) fin
theorem Paired.at {α a:Type} {R:α->a->Prop} {as:List α} {bs:List a} (h:Paired R as bs) (i:Nat) (h1:i < as.length) (h2:i < bs.length):R as[i] bs[i]:=by
 induction h generalizing i with
 | nil=>exact absurd h1 (ydy _)
 | cons r t b =>
  cases i with
  | zero=>exact r
  | succ i=>exact b i (ydp h1) (ydp h2)
theorem zh8 (n:Nat):(ycE n).all (λ_=>true)=true:=by simp
section
variable {X:Cx} {pins:List (Addr×Obj)} {σ:St} {H:Hp} {s:yag}
end
section
variable {X:Cx}
end
section
variable {X:Cx} {K:PySem.W.Frag}
theorem pi_or {b l:Expr} {d c:TI} (h:PI X b l d) (h':PI X b l c):PI X b l (λa H R=>d a H R\/c a H R):=by
 intro pins s a H R I q;rcases q with q | q
 ·exact h pins s a H R I q
 ·exact h' pins s a H R I q
theorem bt_set:ybf "set" = some (.type "set"):=by decide +kernel
theorem zfy (a:X.K=K) (hc:X.calm=true):CallR X (.type "set") (λxs H Q=>∃ (p:Addr) (ys:List Str),xs = [.ref p]/\SqL K H p (ys.map V.str)/\ys.Nodup/\ys.length<=1000/\∀ l,H l=none->Q (.ref l) (upd H l (setO l ys.length))):=a ▸ call_setS hc
theorem zfN (c:X.K=K) (hc:X.calm=true) (b:X.A.units+4 < cLine):CallR X (.type "set") (λxs H Q=>∃ (p:Addr) (a:List Addr) (ks:List (List Key)),xs = [.ref p]/\SqT K H p (a.map V.ref)/\ks.length=a.length/\a.length<=4/\ks.Nodup /\
  (∀ (i:Nat) (q:Addr) (k:List Key),a[i]? = some q->ks[i]? = some k->H q=some (.tup (k.map kV)))/\∀ l,H l=none->Q (.ref l) (upd H l (setO l a.length))):=c ▸ call_setT hc b
theorem zex (a:X.K=K):CallR X (.type "tuple") (λxs H Q=>∃ (p:Addr) (ys:List V),xs = [.ref p]/\SqL K H p ys/\∀ (l:Addr) (o:Obj),H l=none->o.cls = .type "tuple"->o.dict=none->Q (.ref l) (upd H l (.frz o (.tup ys)))):=a ▸ zfq
end
structure FunD (K:PySem.W.Frag) (x qual:Str) (st:Stmt) (f:Addr) (dV:yae) (fd:FuncData):Prop where
 ex:∃ (oc:yae) (od:Option Addr) (kV doc pm:yae) (an:Option Addr) (cdv ct:yae) (osl:Array (Option yae)),
  fd=ycw x qual (zch st) (zbF st) (zaj st) dV kV doc pm an cdv ct/\K.lookup f=some ⟨oc,od,.func fd,osl⟩/\ydR K cdv qual=true
 kp:ycd K (.ref f)=true
section
variable {P:yas} {w:yaS} {K:PySem.W.Frag} {mg:Str->Option yae} {base:Heap}
theorem FunD.ok {x qual:Str} {st:Stmt} {f:Addr} {m:yae} {g:FuncData} {N ps:List Str} {k:Nat} {sp:Sp} (F:FunD K x qual st f m g) (S:FnScope N ps (zaj st)) (e:∀ vs H Q E,sp vs H Q E->vs.length=ps.length)
  (b:∀ (a:yae) (A:yaM) (outer:List Env) (s:yag) (H:Hp) (vs:List V) (Q:VK) (E:XK),Room k (A.deeper (envOfC qual (zaj st) s.heap.objs.size f a))->sp vs H Q E ->
   ∃ t,PSs (cxOf CX0 P w K mg base N qual (zaj st) f a A outer s H E).nox (zbF st) t/\t { nx:=λ_ H'=>Q .non H',rt:=Q } (L2.start N vs) H):FnOk P w K mg base CX0 (k+1) f g ps sp:=by
 obtain ⟨o,od,kV,n,p,r,a,ct,i,rfl,l,c⟩:=F.ex;refine fn_of l c S e λA outer s H vs Q E j d => ?_;obtain ⟨t,h,q⟩:=b a A outer s H vs Q E j d;exact ⟨t,h.nox,q⟩
end
structure MxD (K:PySem.W.Frag) (C:Addr) (m qual:Str) (st:Stmt) where
 f:Addr
 fd:FuncData
 t:Addr
 o:Obj
 n:Nat
 fn:FunD K m qual st f (.ref t) fd
 lo:K.lookup t=some o
 da:o.data = .seq #[.none] n
 me:Meth K C m f
section
variable {X:Cx} {pins:List (Addr×Obj)} {σ:St} {H:Hp} {s:yag}
def prV (c:Str×Str):List V := [.str c.1,.str c.2]
theorem pair_eq {A:yaM} (I:Inv X pins σ H s) (o:A.units < cLine) {a b:Addr} {c d:Str×Str} (m:H a=some (.tup (prV c))) (g:H b=some (.tup (prV d))):SeqAt.EqAt A s (.ref a) (.ref b) (decide (c=d)):=by
 by_cases i:a=b
 ·subst i;rw [m] at g;injection g with g;injection g with g;injection g with h1 h2;injection h2 with h2 _;injection h1 with h1;injection h2 with h2;rw [decide_eq_true (Prod.ext h1 h2)];exact ydu _
 ·obtain ⟨us,l,n,_⟩:=I.tuple (SqT.of m);obtain ⟨vs,k,p,_⟩:=I.tuple (SqT.of g);have it:=zcE (A:=A.in1) (s:=s) l k (by rfl) (by rfl);have:=SeqAt.RcAt.tuples (A:=A) (show s.heap.IsTuple a us.toArray from n) (show s.heap.IsTuple b vs.toArray from p) o it;have l1:us.length=2:=by rw [<- l.length];rfl
  have l2:vs.length=2:=by rw [<- k.length];rfl
  rw [show us.toArray.size=2 by simp [l1],show vs.toArray.size=2 by simp [l2]] at this;have e:((ycE (min 2 2)).all (λj=>eqV ((prV c).getD j .non) ((prV d).getD j .non))&&(2:Nat) == 2)=decide (c=d):=by
   show (eqV (.str c.1) (.str d.1)&&(eqV (.str c.2) (.str d.2)&&true)&&true)=_;rw [Bool.and_true,Bool.and_true,ycg,ya9,decide_eq_true_eq];have f:∀ x y:Str,eqV (.str x) (.str y)=true↔x=y:=λx y=>by
    show (x == y)=true↔_;exact beq_iff_eq
   rw [f,f];exact ⟨λh=>Prod.ext h.1 h.2,λh=>by rw [h];exact ⟨rfl,rfl⟩⟩
  rw [e] at this;exact SeqAt.EqAt.of_refs i this
open Classical in
theorem zeY {H:Hp} {c:Str×Str}:∀ {b:List Addr} {cs:List (Str×Str)} {us:List yae},Paired (λq d=>H q=some (.tup (prV d))) b cs->Vals (b.map V.ref) us ->
  us.any (λv=>match v with | .ref a=>decide (H a=some (.tup (prV c))) | _=>false)=decide (c∈cs)
 | _,_,_,.nil,.nil=>by simp
 | _,d :: ds,u :: us,.cons (a:=q) e t,.cons r rs=>by
  obtain rfl:u=yaq q:=r;rw [ydH,zeY t rs];have:decide (H q=some (.tup (prV c)))=decide (c=d):=by
   rw [e];apply decide_eq_decide.mpr;constructor
   ·intro h;injection h with h;injection h with h;injection h with h1 h2;injection h2 with h2 _;injection h1 with h1;injection h2 with h2;exact Prod.ext h1.symm h2.symm
   ·intro h;rw [h]
  dsimp only;rw [this];by_cases h:c=d
  ·subst h;simp
  ·simp [h]
end
section
variable {X:Cx} {K:PySem.W.Frag}
open Classical in
theorem op_inP (D:X.K=K) (o:X.A.units+1 < cLine):OpR X (yba .In) (λx y H Q=>∃ (t p:Addr) (f:List Addr) (cs:List (Str×Str)) (c:Str×Str),x = .ref t/\y = .ref p/\H t=some (.tup (prV c))/\(SqT K H p (f.map V.ref)\/SqL K H p (f.map V.ref)) /\
  Paired (λq d=>H q=some (.tup (prV d))) f cs/\Q (.bl (decide (c∈cs))) H):=by
 subst D;intro pins s E H x y v u Q I C B h;obtain ⟨t,p,f,cs,c,rfl,rfl,n,g,k,q⟩:=h;obtain rfl:v=yaq t:=C;obtain rfl:u=yaq p:=B;have m:∀ {us:List yae},Vals (f.map V.ref) us->∀ y∈us,SeqAt.EqAt X.A.in1 s y (.ref t) (match y with | .ref a=>decide (H a=some (.tup (prV c))) | _=>false):=λ{us} b y i=>by
  obtain ⟨j,z,rfl⟩:=List.getElem_of_mem i;have l:=b.length;rw [yab] at l;have e:=Paired.at b j (by rw [yab];omega) z;rw [ybl] at e;have r:us[j]=yaq f[j]:=e;have hd:∃ d,H f[j]=some (.tup (prV d)):=⟨_,Paired.at k j (by omega) (by rw [<- yaC k];omega)⟩;obtain ⟨d,hd⟩:=hd;rw [r];have:=pair_eq (A:=X.A.in1) I o hd n;dsimp only;rw [show decide (H f[j]=some (.tup (prV c)))=decide (d=c) from ?_]
  ·exact this
  ·apply decide_eq_decide.mpr;rw [hd];constructor
   ·intro h;injection h with h;injection h with h;injection h with h1 h2;injection h2 with h2 _;injection h1 with h1;injection h2 with h2;exact Prod.ext h1 h2
   ·intro h;rw [h]
 rcases g with g | g
 ·obtain ⟨us,b,pl,_⟩:=I.tuple g;refine SeqAt.in_tupleAt _ pl (λy i=>m b y (by simpa using i)) ?_;rw [List.any_toArray,zeY k b];exact ⟨.bl _,H,I,rfl,q⟩
 ·obtain ⟨us,b,pl,_⟩:=I.list g;refine SeqAt.in_listAt _ pl.isList (λy i=>m b y (by simpa using i)) ?_;rw [List.any_toArray,zeY k b];exact ⟨.bl _,H,I,rfl,q⟩
end
section
variable {prog:yas} {w:yaS} {A:yaM} {E:yae->yag->Prop} {s:yag}
end
structure Zap (z TI TO i1 i2:Addr) (f1 f2:List Addr):Prop where
 zI:TI≠z
 zO:TO≠z
 z1:i1≠z
 z2:i2≠z
 OI:TI≠TO
 O1:i1≠TO
 O2:i2≠TO
 I1:TI≠i1
 I2:TI≠i2
 l12:i1≠i2
 fz1:z∉f1
 fz2:z∉f2
 fO1:TO∉f1
 fO2:TO∉f2
 f21:i2∉f1
 f12:i1∉f2
section
variable {prog:yas} {w:yaS} {A:yaM} {E:yae->yag->Prop} {s:yag}
theorem Draws.but {it b:Addr} {a:List Addr} {n:Nat} {P:Nat->yae->Prop} {St:Nat->Heap->Prop} {i:Nat} {h h':Heap} (D:Draws prog w A it a n P St) (st:St i h) (e:Heap.SameBut b h h') (d:b∉a):St i h' :=
 D.frame i h h' st λc hc o z=>e.extBut c o (λq=>d (q ▸ hc)) z
theorem zip_item {z TI TO i1 i2:Addr} {S Y:List Addr} {n1 Z k:Nat} {P1 V:Nat->yae->Prop} {B u:Nat->Heap->Prop} {a b:yae} {Q:yae->yag->Prop} (l:Draws prog w A i1 S n1 P1 B) (m:Draws prog w A i2 Y Z V u)
  (N:Zap z TI TO i1 i2 S Y) (hz:IsZip s.heap z TI TO .none) (M:IsPair s.heap TI (.ref i1) (.ref i2)) (D:IsPair s.heap TO a b) (s1:B k s.heap) (s2:u k s.heap) (k1:k < n1) (k2:k < Z)
  (hQ:∀ x y h' tk,P1 k x->V k y->IsZip h' z TI TO (yet s.heap.objs.size)->IsPair h' TO x y->B (k+1) h'->u (k+1) h'->IsPair h' s.heap.objs.size x y->h'.objs.size=s.heap.objs.size+1 ->
   (∀ c o,c≠z->c≠TO->c≠i1->c≠i2->s.heap.get? c=some o->h'.get? c=some o)->Q (.ref s.heap.objs.size) { s with heap:=h',toks:=tk }) :
  wpAny (model prog w) A (Builtin.«zip.__next__» ⟨[.ref z],[]⟩) (λfin s'=>∃ v,fin = .done (.ret v)/\Q v s') E s:=by
 show wpAny _ _ (field (.ref z) 2 >>= _) _ _ _;refine yac (ybE hz rfl (x := .bool false) rfl ?_);show wpAny _ _ (field (.ref z) 3 >>= _) _ _ _;refine yac (ybE hz rfl (x := .ref TI) rfl ?_);refine yac (yb0 M rfl ?_);show wpAny _ _ (ya2 (.ref z) >>= _) _ _ _;refine yac ?_;unfold ya2;refine yac (ybE hz rfl (x := .none) rfl (yah ?_));simp only [if_true];refine yac (yed ?_);refine yac (ybE hz rfl (x := .ref TO) rfl ?_);refine yac (ycP hz (by simp) λh1 h e1 => ?_)
 replace h:IsZip h1 z TI TO .ellipsis:=h
 refine yac ?_;simp only [List.zipIdx_cons,List.zipIdx_nil,yc2,ydV];refine yac (yac (wpAny_onRaise ?_));show wpAny _ _ (ybN (.ref i1) >>= _) _ _ _;refine yac (l.item k _ _ _ k1 (Draws.but l s1 e1 N.fz1) λx h2 t2 p1 q1 e2=>yah ?_)
 replace e2:Heap.SameBut i1 h1 h2:=e2
 have R:IsPair h2 TO a b:=e2.extBut _ _ (ybt N.O1) (e1.extBut _ _ N.zO D);refine yac (yb0 R rfl ?_);refine yac (wpAny_updateSeq_pair R λG O e3 => ?_)
 replace O:IsPair G TO x b:=O
 replace e3:Heap.SameBut TO h2 G:=e3
 refine yac (wpAny_letGo (yah ?_));refine yac (yac (wpAny_onRaise ?_));show wpAny _ _ (ybN (.ref i2) >>= _) _ _ _;refine yac (m.item k _ _ _ k2 (Draws.but m (Draws.but m (Draws.but m s2 e1 N.fz2) e2 N.f12) e3 N.fO2) λy H t4 p2 q2 g=>yah ?_)
 replace g:Heap.SameBut i2 G H:=g
 have U:IsPair H TO x b:=g.extBut _ _ (ybt N.O2) O;refine yac (yb0 U rfl ?_);refine yac (wpAny_updateSeq_pair U λd t j => ?_)
 replace t:IsPair d TO x y:=t
 replace j:Heap.SameBut TO H d:=j
 refine yac (wpAny_letGo (yah (yah ?_)));refine yac (yb0 t rfl ?_);refine yac (wpAny_newTuple ?_);have hsz:d.objs.size=s.heap.objs.size:=by rw [j.1,g.1,e3.1,e2.1,e1.1]
 have r:IsZip d z TI TO .ellipsis:=j.extBut _ _ (ybt N.zO) (g.extBut _ _ (ybt N.z2) (e3.extBut _ _ (ybt N.zO) (e2.extBut _ _ (ybt N.z1) h)));have hk:∀ c o,c≠z->c≠TO->c≠i1->c≠i2->s.heap.get? c=some o->d.get? c=some o:=λc o c1 c2 c3 c4 e=>j.extBut _ _ c2 (g.extBut _ _ c4 (e3.extBut _ _ c2 (e2.extBut _ _ c3 (e1.extBut _ _ c1 e))));have J:B (k+1) d:=Draws.but l (Draws.but l (Draws.but l q1 e3 N.fO1) g N.f21) j N.fO1;have C:u (k+1) d:=Draws.but m q2 j N.fO2;have p:z < d.objs.size:=yar r;show wpAny _ _ (ydW (.ref z) (.ref d.objs.size) >>= _) _ _ _;refine yac ?_;unfold ydW;have I:IsZip (d.push { cls := .type "tuple",data := .seq #[x,y] }) z TI TO .ellipsis:=yad _ r;refine yac (ycP I (by simp) λh7 i F => ?_)
 replace i:IsZip h7 z TI TO (yet d.objs.size):=i
 refine ycP i (by simp) λn f L => ?_
 replace f:IsZip n z TI TO (yet d.objs.size):=f
 have up:∀ c o,c≠z->d.get? c=some o->n.get? c=some o:=λc o c1 e=>L.extBut _ _ c1 (F.extBut _ _ c1 (yad _ e));have t8:IsPair n d.objs.size x y:=L.extBut _ _ (yby p) (F.extBut _ _ (yby p) (yan _ rfl));have W:n.objs.size=d.objs.size+1:=by rw [L.1,F.1,ybr]
 rw [hsz] at f t8 W;refine yah ⟨_,rfl,?_⟩;show Q (.ref d.objs.size) _;rw [hsz];exact hQ x y n _ p1 p2 f (up _ _ N.zO t) (l.frame _ _ _ J λc hc o e=>up c o (λq=>N.fz1 (q ▸ hc)) e) (m.frame _ _ _ C λc hc o e=>up c o (λq=>N.fz2 (q ▸ hc)) e) t8 W λc o c1 c2 c3 c4 e=>up c o c1 (hk c o c1 c2 c3 c4 e)
theorem zip_end1 {z TI TO i1 i2:Addr} {i q:List Addr} {l:Nat} {t:Nat->yae->Prop} {j:Nat->Heap->Prop} {Q:Fin->yag->Prop} (k:Draws prog w A i1 i l t j)
  (N:Zap z TI TO i1 i2 i q) (hz:IsZip s.heap z TI TO .none) (g:IsPair s.heap TI (.ref i1) (.ref i2)) (p:j l s.heap)
  (u:∀ h' e,(∀ c o,c≠z->c≠TO->c≠i1->c≠i2->s.heap.get? c=some o->h'.get? c=some o)->(∃ o,h'.get? e=some o/\o.cls = .type "StopIteration")->E (.ref e) { s with heap:=h' }) :
  wpAny (model prog w) A (Builtin.«zip.__next__» ⟨[.ref z],[]⟩) Q E s:=by
 show wpAny _ _ (field (.ref z) 2 >>= _) _ _ _;refine yac (ybE hz rfl (x := .bool false) rfl ?_);show wpAny _ _ (field (.ref z) 3 >>= _) _ _ _;refine yac (ybE hz rfl (x := .ref TI) rfl ?_);refine yac (yb0 g rfl ?_);show wpAny _ _ (ya2 (.ref z) >>= _) _ _ _;refine yac ?_;unfold ya2;refine yac (ybE hz rfl (x := .none) rfl (yah ?_));simp only [if_true];refine yac (yed ?_);refine yac (ybE hz rfl (x := .ref TO) rfl ?_);refine yac (ycP hz (by simp) λh1 b e1 => ?_)
 replace b:IsZip h1 z TI TO .ellipsis:=b
 refine yac ?_;simp only [List.zipIdx_cons,List.zipIdx_nil,yc2,ydV];refine yac (yac (wpAny_onRaise ?_));show wpAny _ _ (ybN (.ref i1) >>= _) _ _ _;refine yac (k.done _ _ _ (Draws.but k p e1 N.fz1) λh2 e e2 m => ?_)
 replace e2:Heap.ExtBut i1 h1 h2:=e2
 obtain ⟨n,a,f⟩:=m;have d:IsZip h2 z TI TO .ellipsis:=e2 _ _ (ybt N.z1) b;have h:e≠z:=λx=>by subst x;rw [d] at a;cases a;simp at f
 exact ycP d (by simp) λr _ e3=>u r e (λc o c1 _ c3 _ x=>e3.extBut _ _ c1 (e2 _ _ c3 (e1.extBut _ _ c1 x))) ⟨n,e3.extBut _ _ h a,f⟩
end
section
variable {prog:yas} {w:yaS} {A:yaM} {E:yae->yag->Prop} {s:yag}
theorem pn_zip {z TI TO i1 i2:Addr} {j p:List Addr} {i q k:Nat} {r l:Nat->yae->Prop} {g e:Nat->Heap->Prop} {a b:yae} {Q:Option yae->yag->Prop} (n:A.handled=none) (t:∀ A:yaM,A.handled=none->Draws prog w A i1 j i r g) (C:∀ A:yaM,A.handled=none->Draws prog w A i2 p q l e)
  (N:Zap z TI TO i1 i2 j p) (hz:IsZip s.heap z TI TO .none) (h:IsPair s.heap TI (.ref i1) (.ref i2)) (d:IsPair s.heap TO a b) (u:g k s.heap) (B:e k s.heap) (k1:k < i) (k2:k < q)
  (v:∀ x y h' f,r k x->l k y->IsZip h' z TI TO (yet s.heap.objs.size)->IsPair h' TO x y->g (k+1) h'->e (k+1) h'->IsPair h' s.heap.objs.size x y->h'.objs.size=s.heap.objs.size+1 ->
   (∀ c o,c≠z->c≠TO->c≠i1->c≠i2->s.heap.get? c=some o->h'.get? c=some o)->Q (some (.ref s.heap.objs.size)) { s with heap:=h',toks:=f }) :
  wpAny (model prog w) A (yd9 (.ref z)) Q E s:=by
 have m:s.TypeIs (.ref z) "zip":=⟨_,hz,rfl⟩;unfold yd9;refine yac (ydK (ybB (name:=ycM "__next__") m ycA
  (ybi ycA m yeW (zip_item (t _ (by exact n)) (C _ (by exact n)) N hz h d u B k1 k2 λx y h' f a1 a2 a3 a4 a5 a6 a7 a8 a9=>yah (v x y h' f a1 a2 a3 a4 a5 a6 a7 a8 a9)) (yeH _))))
theorem pn_zipE {z TI TO i1 i2:Addr} {f l:List Addr} {h:Nat} {q:Nat->yae->Prop} {g:Nat->Heap->Prop} {Q:Option yae->yag->Prop} (j:A.handled=none) (p:∀ A:yaM,A.handled=none->Draws prog w A i1 f h q g)
  (N:Zap z TI TO i1 i2 f l) (hz:IsZip s.heap z TI TO .none) (a:IsPair s.heap TI (.ref i1) (.ref i2)) (r:g h s.heap)
  (i:∀ h',(∀ c o,c≠z->c≠TO->c≠i1->c≠i2->s.heap.get? c=some o->h'.get? c=some o)->Q none { s with heap:=h' }):wpAny (model prog w) A (yd9 (.ref z)) Q E s:=by
 have d:s.TypeIs (.ref z) "zip":=⟨_,hz,rfl⟩;unfold yd9;refine yac (ydK (ybB (name:=ycM "__next__") d ycA
  (ybi ycA d yeW (zip_end1 (p _ (by exact j)) N hz a r λh' e k n => ?_) (yeH _))))
 obtain ⟨o,m,hc⟩:=n;exact yac (ydl (T := "StopIteration") (b:=true) ⟨o,m,hc⟩ isSubtype_stop (yah (i _ k)))
end
section
variable {X:Cx} {pins:List (Addr×Obj)} {σ:St} {H:Hp} {s:yag} {h':Heap}
theorem Inv.turnedL {t':Nat} {ch:List Addr} (I:Inv X pins σ H s) (k:∀ b o,b∉ch->s.heap.get? b=some o->h'.get? b=some o) (F:∀ b∈ch,FpOk X pins H b):Inv X pins σ H { s with heap:=h',toks:=t' }:=by
 have d:∀ b u,H b=some u->b∉ch:=λb u e z=>by rw [(F b z).1] at e;cases e
 refine I.step (g':=s.gens) (d':=s.drawn) (ch:=ch) (λb a=>⟨(F b a).2.2.2.1,(F b a).2.1,(F b a).2.2.2.2.1,(F b a).2.2.2.2.2⟩) (λb o _ _ hc e _=>k b o hc e) (λb o _ _ hc e _=>⟨o.slots,k b o hc e⟩) (λ_ _ _ _ n=>n)
  (λb o hc e=>⟨o,k b o hc e⟩) (λ_ _ e=>e) (λ_ _ _ e=>e) (λb ps e=>⟨#[],by rw [e];simp⟩) (λm g => ?_) (λb u e => ?_) I.bare
 ·obtain ⟨o,es,ep,f,r⟩:=g;exact ⟨o,es,ep,k _ o (λz=>(F _ z).2.1 rfl) f,r⟩
 ·refine (I.hok b u e).stay (λc v hc q => ?_) (λ_ q=>q) λ_ _ q=>q;rcases hc with z | z
  ·subst z;exact k c v (d c u e) q
  ·exact k c v (d c _ z) q
end
section
variable {prog:yas} {w:yaS} {A:yaM} {E:yae->yag->Prop} {s:yag}
end
theorem zap_mk (n l t:Nat) (i:l < n) (h:t < n):Zap (n+4:Nat) (n+2:Nat) (n+3:Nat) n (n+1:Nat) [n,l] [(n+1:Nat),t]:=by
 have a1:l≠n:=by omega
 have a2:∀ k:Nat,n+k≠l:=λk=>by omega
 have a3:∀ k:Nat,n+k≠t:=λk=>by omega
 have a4:n≠t:=by omega
 have d:∀ a b:Nat,a≠b->n+a≠n+b:=λa b z=>by omega
 have g:∀ a:Nat,0 < a->n+a≠n:=λa z=>by omega
 have f:∀ a:Nat,0 < a->n≠n+a:=λa z=>by omega
 have e:∀ c p q:Nat,c≠p->c≠q->c ∉ [p,q]:=λc p q z y=>by simp [z,y]
 exact ⟨d _ _ (by decide),d _ _ (by decide),f _ (by decide),d _ _ (by decide),d _ _ (by decide),f _ (by decide),d _ _ (by decide),g _ (by decide),d _ _ (by decide),f _ (by decide),
  e _ _ _ (g _ (by decide)) (a2 _),e _ _ _ (d _ _ (by decide)) (a3 _),e _ _ _ (g _ (by decide)) (a2 _),e _ _ _ (d _ _ (by decide)) (a3 _),e _ _ _ (g _ (by decide)) (a2 _),e _ _ _ (f _ (by decide)) a4⟩
theorem five (n b:Nat) (h:b=n+4\/b=n+3\/b=n\/b=n+1\/b=n+2):n<=b:=by omega
theorem bt_zip:ybf "zip" = some (.type "zip"):=by decide +kernel
def rEqE (K:PySem.W.Frag) (neg:Bool):R2:=λx y H Q=>∃ a b xs,x = .ref a/\y = .ref b/\SqL K H a xs/\SqL K H b []/\Q (.bl (if neg then !xs.isEmpty else xs.isEmpty)) H
theorem op_eqE {X:Cx} {K:PySem.W.Frag} (m:X.K=K) (c:X.A.units < cLine):OpR X (yba .Eq) (rEqE K false):=by
 subst m;intro pins s k H x y v u Q I f e h;obtain ⟨a,b,xs,rfl,rfl,g,d,q⟩:=h;cases xs with
 | nil=>exact op_eqL c pins s k H _ _ v u Q I f e ⟨a,b,_,_,rfl,rfl,g,d,rfl,rfl,q⟩
 | cons z n =>
  cases f;cases e;obtain ⟨us,j,p1,o⟩:=I.list g;obtain ⟨ws,i,l,p⟩:=I.list d;exact SeqAt.eq_list_lengthsAt p1.isList l.isList (by simp [<- j.length,<- i.length]) c ⟨.bl false,H,I,rfl,q⟩
theorem HT.cat_tupA {prog:yas} {w:yaS} {A:yaM} {E:yae->yag->Prop} {s:yag} {t b:Addr} {vs ws:List yae} {Q:yae->yag->Prop} (i:IsTup s.heap t vs.toArray) (j:IsTup s.heap b ws.toArray)
  (l:vs = []->Q (.ref b) s) (h1:vs ≠ []->ws = []->Q (.ref t) s) (h2:vs ≠ []->ws ≠ []->Q (.ref s.heap.objs.size) { s with heap:=s.heap.push { cls := .type "tuple",data := .seq (vs++ws).toArray } })
  (hsz:vs.length+ws.length<=yaO):wpAny (model prog w) A (yd0 .Add (.ref t) (.ref b)) Q E s:=by
 by_cases d:vs = []
 ·obtain ⟨⟨cls,dd,data,m⟩,h,hc,n,hd⟩:=id i;obtain ⟨⟨k,g,data2,f⟩,e,c,o,a⟩:=id j;simp only at hc hd c a;subst hc hd c a;exact concat_meets ⟨_,h,rfl⟩ ⟨_,e,rfl⟩ noFill_tuple_add seq_tuple_add yeu yei (yeb _ _)
   (tuple_addW0 t b vs.toArray ws.toArray n o dd g m f (by simp [d])) ⟨h,e,l d⟩
 ·exact HT.cat_tup i j d (h1 d) (h2 d) hsz
def rCatS:R2:=λx y H Q=>∃ a b xs ys,x = .ref a/\y = .ref b/\H a=some (.tup xs)/\H b=some (.tup ys)/\xs.length+ys.length<=yaO/\∀ (p:Addr) (H':Hp),Same H H'->H' p=some (.tup (xs++ys))->Q (.ref p) H'
theorem op_catS {X:Cx}:OpR X (yd0 .Add) rCatS:=by
 intro pins s m H x y v u Q I k j h;obtain ⟨a,b,xs,ys,rfl,rfl,g,f,hz,q⟩:=h;cases k;cases j;obtain ⟨i,d,p1,_⟩:=I.tuple (SqT.of g);obtain ⟨e,c,l,_⟩:=I.tuple (SqT.of f);refine HT.cat_tupA p1 l (λz=>⟨.ref b,H,I,rfl,q b H (Same.refl H) ?_⟩) (λ_ z=>⟨.ref a,H,I,rfl,q a H (Same.refl H) ?_⟩) (λ_ z => ?_) (by rw [<- d.length,<- c.length];exact hz)
 ·rw [d.nil_iff.mp z];exact f
 ·rw [c.nil_iff.mp z,ych];exact g
 ·refine ⟨.ref s.heap.objs.size,_,I.laid (t':=s.toks) (o := .tup (xs++ys)) (λb ob q=>yad _ q) (yaj _) ?_,rfl,q _ _ (Same.new (I.hok.fresh (yaj _))) zab⟩;exact ⟨by rw [yaK];exact hz,_,d.append c,IsTup.new _ _⟩
section
variable {X:Cx} {K:PySem.W.Frag}
end
section
variable {X:Cx} {pins:List (Addr×Obj)} {σ:St} {H:Hp} {s:yag}
end
def ItzL (K:PySem.W.Frag) (l t:Addr):It :=
 ⟨λi H=>∃ xs ys x y,SqL K H l xs/\SqL K H t ys/\xs[i]? = some x/\ys[i]? = some y,
  λi H v H'=>∃ u x y,H u=none/\v = .ref u/\H'=upd H u (.tup [x,y])/\(∀ xs,SqL K H l xs->xs[i]? = some x)/\∀ ys,SqL K H t ys->ys[i]? = some y,
  λi H=>∃ xs,SqL K H l xs/\xs.length=i/\∃ ys,SqL K H t ys⟩
theorem turn_zipL {P:yas} {w:yaS} {K:PySem.W.Frag} {elts:List Expr} {x1:Nat} {pos:Pos} (l t z TI TO i1 i2:Addr) (N:Zap z TI TO i1 i2 [i1,l] [i2,t]) (nl:l≠i1) (nt:t≠i2) :
  Turn P w K (.Tuple elts x1 pos) (ItzL K l t) [z,TO,i1,i2,TI] z (λi h=>IsZip h z TI TO .none/\IsPair h TI (.ref i1) (.ref i2)/\(∃ a b,IsPair h TO a b)/\h.IsListIter i1 l i/\h.IsListIter i2 t i) where
 mem:=by simp
 obj:=λi h st b g=>by
  obtain ⟨hz,Z,⟨a',b',R⟩,⟨o1,e1,c1,d1⟩,⟨o2,e2,c2,d2⟩⟩:=st;have d:b=z\/b=TO\/b=i1\/b=i2\/b=TI:=by simpa using g
  rcases d with rfl | rfl | rfl | rfl | rfl
  ·exact ⟨_,hz,λv q=>by cases q⟩
  ·exact ⟨_,R,λv q=>by cases q⟩
  ·exact ⟨o1,e1,λv q=>by rw [d1] at q;cases q⟩
  ·exact ⟨o2,e2,λv q=>by rw [d2] at q;cases q⟩
  ·exact ⟨_,Z,λv q=>by cases q⟩
 keep:=(by rintro i h h' ⟨hz,Z,⟨a',b',R⟩,h1,h2⟩ k;exact ⟨k z (by simp) _ hz,k TI (by simp) _ Z,⟨a',b',k TO (by simp) _ R⟩,h1.at λo e=>k i1 (by simp) o e,h2.at λo e=>k i2 (by simp) o e⟩)
 item:=by
  intro X hP hw hK hc i pins s Y H E I O st hg;subst hP hw hK;obtain ⟨xs,ys,x,y,L,hr,hx,hy⟩:=hg;obtain ⟨j,rv,p,hz⟩:=I.list L;obtain ⟨m,U,p',ay⟩:=I.list hr;obtain ⟨u,hu,ru⟩:=rv.get hx;obtain ⟨v,hv,ah⟩:=U.get hy;obtain ⟨J,zI,⟨a,b,zO⟩,M,s2⟩:=st;have pT:s.heap.IsList t m.toArray:=p'.isList;have lu:i < j.length:=(List.getElem?_eq_some_iff.1 hu).1;have lv:i < m.length:=(List.getElem?_eq_some_iff.1 hv).1;refine pn_zip (I.ok.hd hc) (λA F=>yeI F i1 l nl j.toArray) (λA F=>yeI F i2 t nt m.toArray) N J zI zO ⟨M,p.isList⟩ ⟨s2,pT⟩ (by simpa using lu) (by simpa using lv) λG D h1 S q1 q2 a3 a4 a5 a6 a7 a8 a9=>⟨_,rfl,?_⟩;have ex:G=u:=by
   have q:j.toArray[i]? = some G:=q1;simp at q;rw [hu] at q;exact (yaz q).symm
  have ey:D=v:=by
   have q:m.toArray[i]? = some D:=q2;simp at q;rw [hv] at q;exact (yaz q).symm
  subst ex ey;refine wpAny_letOwnedTupleGo_zip (s:={ s with heap:=h1,toks:=S }) a3 λh2 z4 B => ?_;have lt:∀ {c o},s.heap.get? c=some o->c≠s.heap.objs.size:=λe=>yay (yar e);let T:Obj:={ cls := .type "tuple",data := .seq #[G,D] };have I1:Inv X pins Y (upd H s.heap.objs.size (.tup [x,y])) { s with heap:=s.heap.push T,toks:=s.toks } :=
   I.laid (λb o e=>yad _ e) (yaj _) (show ObjOk X.prog X.w _ _ _ (.tup [x,y]) from ⟨zah (show 2<=100000 by decide),[G,D],.cons ru (.cons ah .nil),IsTup.new _ _⟩)
  have V:∀ b ∈ [z,TO,i1,i2,TI],∃ o,s.heap.get? b=some o:=λb g=>by
   obtain ⟨o1,e1,_⟩:=M;obtain ⟨o2,e2,_⟩:=s2;have d:b=z\/b=TO\/b=i1\/b=i2\/b=TI:=by simpa using g
   rcases d with d | d | d | d | d <;> subst d <;> exact ⟨_,by assumption⟩
  have fp:∀ b ∈ [z,TO,i1,i2,TI],FpOk X pins (upd H s.heap.objs.size (.tup [x,y])) b:=λb g=>by
   obtain ⟨o,C⟩:=V b g;exact ⟨by rw [zaf (lt C)];exact (O b g).1,(O b g).2⟩
  have nz:s.heap.objs.size≠z:=ybt (lt J);have I2:Inv X pins Y (upd H s.heap.objs.size (.tup [x,y])) { s with heap:=h2,toks:=S } :=
   Inv.turnedL (s:={ s with heap:=s.heap.push T,toks:=s.toks }) (t':=S) (ch := [z,TO,i1,i2]) I1 (λb o g e=>by
    have f:b≠z/\b≠TO/\b≠i1/\b≠i2:=by simpa using g
    rcases Heap.get?_push_cases e with ⟨rfl,rfl⟩ | d
    ·exact (B.2 _ f.1).trans a7
    ·exact (B.2 _ f.1).trans (a9 b o f.1 f.2.1 f.2.2.1 f.2.2.2 d)) (λb g=>fp b (by
     have d:b=z\/b=TO\/b=i1\/b=i2:=by simpa using g
     rcases d with d | d | d | d <;> subst d <;> simp))
  refine ⟨.ref s.heap.objs.size,_,I2,rfl,⟨_,x,y,I.hok.fresh (yaj _),rfl,rfl,λQ n=>by rw [I.list_inj n L];exact hx,λQ n=>by rw [I.list_inj n hr];exact hy⟩,⟨z4,?_,⟨G,D,?_⟩,?_,?_⟩,λb g=>(fp b g).1⟩
  ·exact (B.2 _ N.zI).trans (a9 _ _ N.zI N.OI N.I1 N.I2 zI)
  ·exact (B.2 _ N.zO).trans a4
  ·obtain ⟨o,C,r⟩:=a5.1;exact ⟨o,(B.2 _ N.z1).trans C,r⟩
  ·obtain ⟨o,C,r⟩:=a6.1;exact ⟨o,(B.2 _ N.z2).trans C,r⟩
 done:=by
  intro X hP hw hK hc i pins s Y H E I O st hg;subst hP hw hK;obtain ⟨xs,L,hx,ys,hr⟩:=hg;obtain ⟨j,rv,p,hz⟩:=I.list L;obtain ⟨J,zI,⟨a,b,zO⟩,M,s2⟩:=st;have hl:=rv.length;have e:i=j.toArray.size:=by simp;omega
  exact pn_zipE (I.ok.hd hc) (λA F=>yeI F i1 l nl j.toArray) N J zI ⟨e ▸ M,p.isList⟩ λh' kp=>⟨rfl,Inv.turnedL (t':=s.toks) (ch := [z,TO,i1,i2]) I (λb o g q=>by
   have f:b≠z/\b≠TO/\b≠i1/\b≠i2:=by simpa using g
   exact kp b o f.1 f.2.1 f.2.2.1 f.2.2.2 q) (λb g=>O b (by
    have d:b=z\/b=TO\/b=i1\/b=i2:=by simpa using g
    rcases d with d | d | d | d <;> subst d <;> simp))⟩
 self:=λ_ _ _ _ _ st h=>wpAny_pyIter_zip st.1 h
abbrev yh1 (h:Heap) (l:Addr):Heap:=h.push { cls := .type "list_iterator",data := .fields #[.ref l,.int 0 0] }
abbrev yh2 (h:Heap) (l t:Addr):Heap:=(yh1 h l).push { cls := .type "list_iterator",data := .fields #[.ref t,.int 0 0] }
abbrev yh3 (h:Heap) (l t:Addr):Heap:=(yh2 h l t).push { cls := .type "tuple",data := .seq #[.ref h.objs.size,.ref (yh1 h l).objs.size] }
abbrev yh4 (h:Heap) (l t:Addr):Heap:=(yh3 h l t).push { cls := .type "tuple",data := .seq #[.none,.none] }
abbrev yh5 (h:Heap) (l t:Addr):Heap:=(yh4 h l t).push { cls := .type "zip",data := .fields #[.none,.bool false,.bool false,.ref (yh2 h l t).objs.size,.ref (yh3 h l t).objs.size] }
theorem zeM (l t:Addr) (xs ys:Array yae) :
  Meets (Builtin.«zip.__new__» ⟨[.type "zip",.ref l,.ref t],[]⟩) (λ_ R s=>s.heap.IsList l xs/\s.heap.IsList t ys/\R (.ok (.ret (.ref (yh4 s.heap l t).objs.size))) { s with heap:=yh5 s.heap l t }) :=
 .of_wp λprog w A R s h=>by
  obtain ⟨j,g,d,i,os⟩:=s;obtain ⟨e,a,h⟩:=h;have f:=sub_zip;have c:Heap.IsList (Shared.heap ⟨j,g,d,i,os⟩) l xs:=e;have b:Heap.IsList (Shared.heap ⟨j.push { cls := .type "list_iterator",data := .fields #[.ref l,.int 0 0] },g,d,i,os⟩) t ys:=Heap.IsList.push a _
  wp_walk using ydF c,ydF b
  exact ⟨_,rfl,h⟩
section
variable {prog:yas} {w:yaS} {A:yaM} {E:yae->yag->Prop} {s:yag}
theorem ziR {l t:Addr} {xs ys:Array yae} {Q:yae->yag->Prop} (g:s.heap.IsList l xs) (b:s.heap.IsList t ys)
  (h:∀ h',IsZip h' (s.heap.objs.size+4) (s.heap.objs.size+2) (s.heap.objs.size+3) .none->IsPair h' (s.heap.objs.size+2) (.ref s.heap.objs.size) (.ref (s.heap.objs.size+1)) ->
   IsPair h' (s.heap.objs.size+3) .none .none->h'.IsListIter s.heap.objs.size l 0->h'.IsListIter (s.heap.objs.size+1) t 0 ->
   (∀ c o,s.heap.get? c=some o->h'.get? c=some o)->Q (.ref (s.heap.objs.size+4)) { s with heap:=h' }) :
  wpAny (model prog w) A (call (.type "zip") [.ref l,.ref t]) Q E s:=by
 refine callType_new F.called_zip (by decide) (F.typeCall_zip_2 _ _) (F.newCall_zip_2 _ _) (λobj=>F.args_object_init_3 obj _ _) F.entry_zip_new
  (zeM l t xs ys) ⟨g,b,?_⟩
 have d:(yh1 s.heap l).objs.size=s.heap.objs.size+1:=ybr ..;have e:(yh2 s.heap l t).objs.size=s.heap.objs.size+2:=by rw [ybr,d]
 have a:(yh3 s.heap l t).objs.size=s.heap.objs.size+3:=by rw [ybr,e]
 have j:(yh4 s.heap l t).objs.size=s.heap.objs.size+4:=by rw [ybr,a]
 have f:(yh5 s.heap l t).get? (yh4 s.heap l t).objs.size=some _:=yan _ rfl;have k:(yh5 s.heap l t).get? (yh3 s.heap l t).objs.size=some _:=yad _ (yan _ rfl);have m:(yh5 s.heap l t).get? (yh2 s.heap l t).objs.size=some _:=yad _ (yad _ (yan _ rfl));have i:(yh5 s.heap l t).get? (yh1 s.heap l).objs.size=some _:=yad _ (yad _ (yad _ (yan _ rfl)));have n:(yh5 s.heap l t).get? s.heap.objs.size=some _:=yad _ (yad _ (yad _ (yad _ (yan _ rfl))));show _/\_;rw [e,a,j] at f;rw [d,e] at m;rw [a] at k;rw [d] at i;rw [j];exact ⟨⟨_,f,rfl⟩,h _ f m k ⟨_,n,rfl,rfl⟩ ⟨_,i,rfl,rfl⟩ λc o x =>
  yad _ (yad _ (yad _ (yad _ (yad _ x))))⟩
end
def iZipL (K:PySem.W.Frag) (ta:TA):TI:=λσ H R=>ta σ H λvs H1=>∃ l t,vs = [.ref l,.ref t]/\(∃ xs,SqL K H1 l xs)/\(∃ ys,SqL K H1 t ys)/\R (ItzL K l t) H1
theorem pi_zipL {X:Cx} {K:PySem.W.Frag} {elts:List Expr} {x1:Nat} {d:Pos} {a b:Expr} {v:TA} {p pos:Pos} (U:X.K=K) (Q:Gl X "zip") (F:X.mg "zip" = none) (S:PA X [a,b] v) (hs:yaZ [a,b] X.env=(false,eval a X.env) :: yaZ [b] X.env:=by rfl) (k:yaZ [b] X.env = [(false,eval b X.env)]:=by rfl) :
  PI X (.Tuple elts x1 d) (.Call (.Name "zip" p) [a,b] [] pos) (iZipL K v):=by
 subst U;intro pins s N H R I h;refine Call_ (zdh I Q F bt_zip (ybp (thn (S pos pins s N H _ I h) λus c m => ?_) hs (by rw [k];rfl)));obtain ⟨vs,y,f,D,M⟩:=m;obtain ⟨l,t,e,⟨xs,C⟩,⟨ys,L⟩,q⟩:=M;subst e;cases D with
 | cons r B =>
  cases B with
  | cons z i =>
   cases i;obtain rfl:_=yaq l:=r;obtain rfl:_=yaq t:=z;obtain ⟨E,V,pl,hz⟩:=f.list C;obtain ⟨j,G,pt,O⟩:=f.list L;have n:c.heap.IsList t j.toArray:=pt.isList;refine ziR pl.isList n λh' a1 a2 a3 a4 a5 A => ?_;refine wpAny_pyIter_zip (s:={ c with heap:=h' }) a1 ?_;have fr:∀ b,c.heap.objs.size<=b->FpOk X pins y b:=λb g=>f.fpOk g (f.hok.fresh g);have u:l < c.heap.objs.size:=let ⟨o,ho,_⟩:=pl.isList;yar ho;have lt:t < c.heap.objs.size:=let ⟨o,ho,_⟩:=n;yar ho;refine ⟨c.heap.objs.size+4,[c.heap.objs.size+4,c.heap.objs.size+3,c.heap.objs.size,c.heap.objs.size+1,c.heap.objs.size+2],_,_,y,rfl,f.kept (t':=c.toks) A,turn_zipL l t _ (c.heap.objs.size+2) _ _ _ (zap_mk _ l t u lt) (yay u) (yay (ybS lt)),⟨a1,a2,⟨_,_,a3⟩,a4,a5⟩,λb g=>fr b ?_,q⟩;have J:b=c.heap.objs.size+4\/b=c.heap.objs.size+3\/b=c.heap.objs.size\/b=c.heap.objs.size+1\/b=c.heap.objs.size+2:=by simpa using g
   exact five _ _ J
theorem zcf {c:Const} {j:Nat} {p:Pos} {es:List Expr} {env:Env}:yaZ (.Constant c j p :: es) env=(false,eval (.Constant c j p) env) :: yaZ es env:=rfl
section
variable {X:Cx} {a b e:Expr} {es:List Expr} {te ta tb:TE} {t:TA} {pos:Pos}
theorem pa_s3 {x1 a b:Str} {e h d:Nat} {p1 f g:Pos} (c:PA X es t):PA X (.Constant (.str x1) e p1 :: .Constant (.str a) h f :: .Constant (.str b) d g :: es) (tCons (tC (.str x1)) (tCons (tC (.str a)) (tCons (tC (.str b)) t))) :=
 zaa zbE (zaa zbE (zaa zbE c zcf) zcf) zcf
theorem pa_s4 {x1 b c a:Str} {g k f e:Nat} {p1 h i j:Pos} (d:PA X es t):PA X (.Constant (.str x1) g p1 :: .Constant (.str b) k h :: .Constant (.str c) f i :: .Constant (.str a) e j :: es) (tCons (tC (.str x1)) (tCons (tC (.str b)) (tCons (tC (.str c)) (tCons (tC (.str a)) t)))) :=
 zaa zbE (pa_s3 d) zcf
end
end L2
namespace L2
open PySem PySem.Spec PyProof.Rows
section
variable {X:Cx} {a b e:Expr} {es:List Expr} {te ta tb:TE} {t:TA} {pos:Pos} {st:Stmt} {rest:List Stmt} {ts us:TS}
end
section
variable {X:Cx} {ex:St->XK} {C:Addr} {x m qual:Str} {st:Stmt} {ps:List Str} {k:Nat} {sp:Sp} {o e:Expr} {es:List Expr} {ta:TE} {t:TA} {apos p pos:Pos}
end
section
variable {P:yas} {w:yaS} {K:PySem.W.Frag} {mg:Str->Option yae} {base:Heap} {N:List Str} {qual:Str} {scope:Scope} {f:Addr} {cd:yae} {A:yaM} {outer:List Env} {s0:yag} {H0:Hp} {E:XK}
 {x:Str} {st:Stmt} {ps:List Str} {k:Nat} {sp:Sp} {e:Expr} {es:List Expr} {t:TA} {p pos:Pos}
end
section
variable {X:Cx} {K:PySem.W.Frag} {e:Expr} {es:List Expr} {te:TE} {t:TA}
def tBL (K:PySem.W.Frag) (t:TE):TT:=λσ H Q=>t σ H λx H1=>∃ a xs,x = .ref a/\SqL K H1 a xs/\Q (!xs.isEmpty) H1
theorem pt_lstK (o:X.K=K) (h:PE X e te) (j:∀ whole,isTrue e X.env whole=(do let v <- whole;standAt e.pos;holding [v] (truthy v)):=by intro _;rfl):PT X e (tBL K te):=by
 subst o;intro pins s n H Q I hw;refine isTrue_plain (thn (h pins s n H _ I hw) λv r c => ?_) (j _);obtain ⟨x,l,f,i,m⟩:=c;obtain ⟨a,xs,rfl,g,q⟩:=m;cases i;obtain ⟨b,d,p,hz⟩:=f.list g;have k:=d.length;refine wpAny_truthy_list p.isList (by rw [yaE,<- k];have:yaO=16777216:=yd3;omega) ⟨l,f.tok _,?_⟩;have e:b.toArray.isEmpty=xs.isEmpty:=by rw [List.isEmpty_toArray];cases d <;> rfl
 rw [e];exact q
end
section
variable {P:yas} {w:yaS} {K:PySem.W.Frag} {mg:Str->Option yae} {base:Heap}
end
section
variable {X:Cx} {C:Addr} {m qual:Str} {st:Stmt} {ps:List Str} {k:Nat} {sp:Sp} {o:Expr} {ta:TE} {apos pos:Pos}
end
section
variable {X:Cx} {K:PySem.W.Frag}
end
section
variable {X:Cx} {elt tg iter:Expr} {ifs:List Expr} {scope:Scope} {pos:Pos} {N:List Str} {own:Nat} {caps:List Nat} {g:TG} {tt:TT} {te:TE}
end
section
variable {M:Model} {A:yaM} {E:yae->yag->Prop} {s:yag} {base:Heap} {env:Env} {outer:List Env} {L e:Addr} {Q:Unit->yag->Prop}
end
section
variable {P:yas} {w:yaS} {K:PySem.W.Frag} {mg:Str->Option yae} {base:Heap} {N:List Str} {qual:Str} {scope:Scope} {f:Addr} {cd:yae} {A:yaM} {outer:List Env} {s0:yag} {H0:Hp} {E:XK}
end
section
variable {X:Cx} {E:XK} {elt tg iter:Expr} {ifs:List Expr} {scope:Scope} {pos:Pos} {N:List Str} {own:Nat} {caps:List Nat} {g:TG} {tt:TT} {te:TE} {wi:TI}
end
section
variable {X:Cx} {ex:St->XK} {x:Str} {st:Stmt} {ps:List Str} {k:Nat} {sp:Sp} {e:Expr} {es:List Expr} {t:TA} {p pos:Pos}
end
section
variable {X:Cx} {ex:St->XK} {C f:Addr} {fd:FuncData} {x:Str} {ps:List Str} {k:Nat} {sp:Sp} {dvs:List V} {ds:List yae} {e:Expr} {es:List Expr} {t:TA} {p pos:Pos}
end
section
variable {P:yas} {w:yaS} {κ:Type} [DecidableEq κ] {knd:PySem.KeyKind P w κ} {A:yaM} {E:yae->yag->Prop} {s:yag}
end
section
variable {P:yas} {w:yaS} {A:yaM} {E:yae->yag->Prop} {s:yag}
end
section
variable {X:Cx}
end
section
variable {X:Cx} {K:PySem.W.Frag}
end
section
variable {X:Cx} {a b e:Expr} {ta tb te:TE} {pos:Pos}
end
end L2
namespace L2
open PySem PySem.Spec PyProof.Rows PySem.W
section
variable {prog:yas} {w:yaS} {A:yaM} {E:yae->yag->Prop} {s:yag} {K:PySem.W.Frag} {x D:Addr} {ox:Obj} {od:Option Obj}
end
section
variable {X:Cx} {K:PySem.W.Frag}
end
end L2
namespace L2
open PySem PySem.Spec PyProof.Rows PySem.W PySem.Builtin PySem.Builtin.ObjectAttr
section
variable {prog:yas} {w:yaS} {A:yaM} {K:PySem.W.Frag} {C x:Addr} {s:yag} {R:Result->yag->Prop} {E:yae->yag->Prop}
end
section
variable {X:Cx} {K:PySem.W.Frag}
end
end L2
namespace L2
open PySem PySem.Spec PyProof.Rows PySem.W
section
variable {prog:yas} {w:yaS} {A:yaM} {E:yae->yag->Prop} {hp:Heap} {g:Array GenState} {d:Drawn} {t:Nat} {os:OsState}
variable {nm qn:Str} {C N:Addr} {bs bm:List yae} {hdct:Bool} {sn:List Str} {sub:List yae} {ab:Bool} {col:Option Bool} {dd:Option Addr} {k0 k1 k2 k3 k5:Option yae}
end
end L2
namespace L2
open PySem PySem.Spec PyProof.Rows PySem.W
section
variable {X:Cx} {CX:CXT} {k:Nat} {f C:Addr} {fd:FuncData} {ps:List Str} {sp:Sp} {E:XK} {x:Str} {p pos:Pos} {e:Expr} {es:List Expr} {t:TA}
end
section
variable {M:Model} {A:yaM} {E:yae->yag->Prop} {env:Env} {nm qn:Str} {C N:Addr} {bs bm:List yae} {hdct:Bool} {sn:List Str} {sub:List yae} {ab:Bool} {col:Option Bool} {dd:Option Addr} {k0 k1 k2 k3 k5:Option yae}
end
section
variable {P:yas} {w:yaS} {K:PySem.W.Frag} {mg:Str->Option yae} {base:Heap} {N:List Str} {qual:Str} {scope:Scope} {f:Addr} {cd:yae} {A:yaM} {outer:List Env} {s0:yag} {H0:Hp} {E:XK}
 {k:Nat} {f2 C:Addr} {fd:FuncData} {ps:List Str} {sp:Sp} {x:Str} {p np cpos pos:Pos} {e:Expr} {es:List Expr} {t:TA}
end
section
variable {X:Cx} {K:PySem.W.Frag}
end
def SameV (v:V):Prop:=(∃ c,v = .ref c)\/(flatV v=true/\eqV v v=true)
def rNeI (K:PySem.W.Frag):R2:=λx y H Q=>∃ a b xs,x = .ref a/\y = .ref b/\SqT K H a xs/\SqT K H b xs/\(∀ v∈xs,SameV v)/\Q (.bl false) H
theorem op_neI {X:Cx} {K:PySem.W.Frag} (D:X.K=K) (F:X.A.units+1 < cLine):OpR X (yba .NotEq) (rNeI K):=by
 subst D;intro pins s G H x y v u Q I r o ⟨a,b,xs,ex,C,m,B,k,q⟩;subst ex;subst C;obtain rfl:v=yaq a:=r;obtain rfl:u=yaq b:=o;obtain ⟨us,h,p,_⟩:=I.tuple m;obtain ⟨vs,g,E,_⟩:=I.tuple B;have l1:=h.length;have l2:=g.length;have it:∀ j (h1:j < us.toArray.size) (h2:j < vs.toArray.size),SeqAt.EqAt X.A.in1 s us.toArray[j] vs.toArray[j] true:=λj h1 h2=>by
  have l:j < us.length:=by simpa using h1
  have n:j < vs.length:=by simpa using h2
  have d:=Paired.at h j (by omega) l;have f:=Paired.at g j (by omega) n;have ok:=k xs[j] (yam (by omega));have e:SeqAt.EqAt X.A.in1 s us[j] vs[j] true:=by
   generalize xs[j]=z at d f ok;rcases ok with ⟨c,rfl⟩ | ⟨i,t⟩
   ·have e1:us[j]=yaq c:=d;have e2:vs[j]=yaq c:=f;rw [e1,e2];exact ydu _
   ·have z:=zdo (A:=X.A.in1) (s:=s) d f i i;rw [t] at z;exact z
  simpa using e
 refine SeqAt.RcNeAt.tuples (e:=λ_=>true) (show s.heap.IsTuple a us.toArray from p) (show s.heap.IsTuple b vs.toArray from E) (by omega) it X.prog X.w _ _ ?_;rw [zh8,Bool.true_and,show (us.toArray.size == vs.toArray.size)=true by simp;omega];exact ⟨.bl false,H,I,rfl,q⟩
end L2
namespace L2
open PySem PySem.Spec PyProof.Rows PySem.W
section
variable {K:PySem.W.Frag} {D:Addr}
end
section
variable {X:Cx} {K:PySem.W.Frag}
open Classical in
end
section
variable {X:Cx} {K:PySem.W.Frag}
end
theorem ze8:∀ {us:List yae} {ns:List Int},IntsAre us ns->Vals (ns.map V.int) us
 | _,_,.nil => .nil
 | _,_,.cons y t r => .cons ⟨t,rfl⟩ (ze8 r)
theorem zdS:∀ {us:List yae} {ss:List Str},StrsAre us ss->Vals (ss.map V.str) us
 | _,_,.nil => .nil
 | _,_,.cons y t r => .cons ⟨t,rfl⟩ (zdS r)
section
variable {X:Cx} {K:PySem.W.Frag}
theorem zhE {us:List yae} {ns:List Int} (h:IntsAre us ns):us.length=ns.length:=by
 have:=(ze8 h).length;rw [yab] at this;exact this.symm
theorem zgV {us:List yae} {ns:List Str} (h:StrsAre us ns):us.length=ns.length:=by
 have:=(zdS h).length;rw [yab] at this;exact this.symm
end
section
variable {prog:yas} {w:yaS} {A:yaM} {E:yae->yag->Prop} {s:yag} {T:String} {r d:Addr} {n:Nat} {P:Nat->yae->Prop} {OK:Heap->Prop}
theorem zeN {Q:List yae->yag->Prop} (K:PySem.W.KdlSrc prog w T r d n P OK) (H:A.handled=none) (m:OK s.heap) (D:n<=yaO)
  (v:∀ h' h a,s.heap.objs.size<=h'.objs.size->(∀ b o,s.heap.get? b=some o->h'.get? b=some o)->ItemsOf P a n->Q a.toList { s with heap:=h',toks:=h }):wpAny (model prog w) A (collect (.ref r)) Q E s:=by
 have k:=K.there _ m;unfold collect;refine yac (wpAny_runValue (yck F.entry_proto_collect ?_));rw [ybF F.plain_proto_collect _];show wpAny _ A.in1 (newList [] >>= λl=>again (.builtin "list.__iadd__" ⟨[l,.ref r],[]⟩)) _ _ s;refine yac (ybQ ?_);refine yah ⟨yeo F.plain_list_iadd _,yck F.entry_list_iadd ?_⟩;rw [ybF F.plain_list_iadd _];have y:(s.heap.push { cls := .type "list",data := .seq ([]:List yae).toArray }).get? s.heap.objs.size=some { cls := .type "list",data := .seq #[] }:=yan _ rfl;show wpAny _ A.in1 (ycB (.ref s.heap.objs.size) (.ref r) (.ref s.heap.objs.size)) _ _ _;let R:Result->yag->Prop:=λres q=>∃ (h':Heap) (h:Nat) (a:Array yae) (c:Nat),res = .ok (.ret (.ref s.heap.objs.size))/\q = { s with heap:=h',toks:=h }/\(∀ b o,s.heap.get? b=some o->h'.get? b=some o)/\h'.get? s.heap.objs.size=some { cls := .type "list",dict:=none,data := .seq a c,slots := #[] }/\ItemsOf P a n;refine ybJ (PySem.W.kdl_extend (A:=A) (R:=R) (s:={ s with heap:=s.heap.push { cls := .type "list",data := .seq ([]:List yae).toArray } }) K H (K.keep _ _ m λb _ o e=>yad _ e) s.heap.objs.size (yby k.1) (yby k.2) (.ref s.heap.objs.size) _ y (λh' h i u B g j=>⟨h',h,i,u,rfl,rfl,λb o e=>B b o (yay (yar e)) (yad _ e),g,j⟩) D) (λf q t => ?_) (λe q C => ?_)
 ·cases f with
  | done I =>
   obtain ⟨h',h,a,c,e,rfl,p,g,it⟩:=t;cases e;exact yac (wpAny_load g (yah (v h' h a (yc6 (yar g)) p it)))
  | again u =>
   refine ⟨t.1,yea t.2 λres J G => ?_⟩;obtain ⟨h',h,a,c,e,rfl,p,g,it⟩:=G;cases e;exact yac (wpAny_load g (yah (v h' h a (yc6 (yar g)) p it)))
 ·obtain ⟨_,_,_,_,z,_⟩:=C;cases z
theorem zcm {h:Heap} {vs:List yae} {out:Array yae} {b:Addr} {o:Obj} (c:h.get? b=some o):(sortedHeap (h.push (yev "list" vs.toArray 0)) h.objs.size vs out).get? b=some o:=by
 have a:=yar c;rw [sortedHeap_old (yay a) (by rw [size_push'];exact ybS a)];exact yad _ c
theorem ze1 {Q:yae->yag->Prop} {ns:List Int} (K:PySem.W.KdlSrc prog w T r d n P OK) (y:A.handled=none) (l:OK s.heap) (u:n<=yaO) (v:∀ c:Array yae,ItemsOf P c n->IntsAre c.toList ns) (j:ns.length < 64)
  (h:∀ (a:Addr) (h':Heap) (k e:Nat) (out:Array yae) (g:List Int),s.heap.objs.size<=a->(∀ b o,s.heap.get? b=some o->h'.get? b=some o)->h'.get? a=some (yev "list" out e)->IntsAre out.toList g->g.Perm ns->g.Pairwise (· <= ·)->Q (.ref a) { s with heap:=h',toks:=k }) :
  wpAny (model prog w) A (call (.builtin "sorted") [.ref r]) Q E s:=by
 refine ydX kind_sorted plain_sorted entry_sorted (args_sorted1 _) ?_;unfold Builtin.«sorted»;refine yac (m:=checkCount "sorted" 1 1 _) (yah ?_);refine yac (zeN K y l u λh1 k c sz q it => ?_);have p:=v c it;have i:c.toList.length < 64:=by rw [zhE p];exact j
 refine yac (wpAny_newList ?_);have f:(h1.push (yev "list" c.toList.toArray 0)).get? h1.objs.size=some (yev "list" c.toList.toArray 0):=yan _ rfl;refine yac (ya1 (ybi slot_list_sort ⟨_,f,rfl⟩ entry_list_sort (list_sort_tree f p i λout g a1 a2 a3=>⟨_,rfl,?_⟩) (args_list_sort _)));obtain ⟨e,t⟩:=sortedHeap_at (out:=out) f;exact yah ⟨_,rfl,h h1.objs.size _ k e out g sz (λb o z=>zcm (q b o z)) t a1 a2 a3⟩
theorem zer {Q:yae->yag->Prop} {ss:List Str} (K:PySem.W.KdlSrc prog w T r d n P OK) (D:A.handled=none) (q:OK s.heap) (B:n<=yaO) (C:∀ c:Array yae,ItemsOf P c n->StrsAre c.toList ss) (k:ss.length < 64)
  (h:∀ (a:Addr) (h':Heap) (l e:Nat) (out:Array yae) (g:List Str),s.heap.objs.size<=a->(∀ b o,s.heap.get? b=some o->h'.get? b=some o)->h'.get? a=some (yev "list" out e)->StrsAre out.toList g->g.Perm ss->sortedS g=true->Q (.ref a) { s with heap:=h',toks:=l }) :
  wpAny (model prog w) A (call (.builtin "sorted") [.ref r]) Q E s:=by
 refine ydX kind_sorted plain_sorted entry_sorted (args_sorted1 _) ?_;unfold Builtin.«sorted»;refine yac (m:=checkCount "sorted" 1 1 _) (yah ?_);refine yac (zeN K D q B λh1 l c sz v it => ?_);have i:=C c it;have j:c.toList.length < 64:=by rw [zgV i];exact k
 refine yac (wpAny_newList ?_);have f:(h1.push (yev "list" c.toList.toArray 0)).get? h1.objs.size=some (yev "list" c.toList.toArray 0):=yan _ rfl;refine yac (ya1 (ybi slot_list_sort ⟨_,f,rfl⟩ entry_list_sort (list_sort_treeK strKind_oneLt f i.keysOf (λu t rest e=>keyKind_strs (by rw [<- e];exact i)) j λp F hs=>⟨_,rfl,?_⟩) (args_list_sort _)));obtain ⟨g,a1,a2,a3⟩:=sorted_out_str i F hs;obtain ⟨e,y⟩:=sortedHeap_at (out:=(arrOf p).map (·.2)) f;exact yah ⟨_,rfl,h h1.objs.size _ l e _ g sz (λb o z=>zcm (v b o z)) y a1 a2 a3⟩
end
section
variable {X:Cx}
theorem zgh {kvs:List (Key×V)} {vs:List (Key×yae)} (h:KV kvs vs):vs.map (·.1)=kvs.map (·.1):=by
 induction h with
 | nil=>rfl
 | cons r _ a=>rw [yaw,yaw,a,r.1]
theorem ziQ {vs:List (Key×yae)}:∀ {us:List yae} {ns:List Int},vs.map (·.1)=ns.map (ycy:Int->Key)->us.length=vs.length->(∀ (i:Nat) (v:yae),us[i]? = some v->∃ k x,vs[i]? = some (k,x)/\keyIs k v=true)->IntsAre us ns:=by
 induction vs with
 | nil =>
  intro us ns e l _;cases ns with
  | nil=>cases us with
   | nil=>exact .nil
   | cons _ _=>cases l
  | cons _ _=>cases e
 | cons p vs f =>
  intro us ns e l h;cases ns with
  | nil=>cases e
  | cons n ns =>
   cases us with
   | nil=>cases l
   | cons u us =>
    rw [yaw,yaw] at e;injection e with e1 e2;obtain ⟨k,x,b,c⟩:=h 0 u rfl;have b:p=(k,x):=yaz b;rw [b] at e1;have e1:k=ycy n:=e1;subst e1;rcases zaB c with ⟨i,t,a,rfl⟩ | ⟨y,t,a,rfl⟩
    ·cases a;exact .cons n t (f e2 (yb5 l) λi v d=>h (i+1) v d)
    ·cases a
theorem zha {vs:List (Key×yae)}:∀ {us:List yae} {ns:List Str},vs.map (·.1)=ns.map (ybs:Str->Key)->us.length=vs.length->(∀ (i:Nat) (v:yae),us[i]? = some v->∃ k x,vs[i]? = some (k,x)/\keyIs k v=true)->StrsAre us ns:=by
 induction vs with
 | nil =>
  intro us ns e l _;cases ns with
  | nil=>cases us with
   | nil=>exact .nil
   | cons _ _=>cases l
  | cons _ _=>cases e
 | cons p vs f =>
  intro us ns e l h;cases ns with
  | nil=>cases e
  | cons n ns =>
   cases us with
   | nil=>cases l
   | cons u us =>
    rw [yaw,yaw] at e;injection e with e1 e2;obtain ⟨k,x,b,c⟩:=h 0 u rfl;have b:p=(k,x):=yaz b;rw [b] at e1;have e1:k=ybs n:=e1;subst e1;rcases zaB c with ⟨i,t,a,rfl⟩ | ⟨y,t,a,rfl⟩
    ·cases a
    ·cases a;exact .cons n t (f e2 (yb5 l) λi v d=>h (i+1) v d)
theorem zf0 (hc:X.calm=true):CallR X (.builtin "sorted") (λxs H Q=>∃ (p:Addr) (kvs:List (Key×V)) (ns:List Int),xs = [.ref p]/\H p=some (.dK kvs)/\kvs.map (·.1)=ns.map (ycy:Int->Key)/\ns.length < 64/\∀ (l:Addr) (b:List Int),H l=none->b.Perm ns->b.Pairwise (· <= ·)->Q (.ref l) (upd H l (.lst (b.map V.int)))):=by
 intro pins s E H xs us Q I r h;obtain ⟨p,kvs,ns,rfl,D,A,d,q⟩:=h;obtain ⟨u,rfl,C⟩:=vals1 r;cases C;obtain ⟨hz,lo,vs,kv,c⟩:=I.hok p _ D;obtain ⟨ep,hd⟩:=c.dictAt;have f:vs.length<=yaO:=by have:=yaC kv;omega
 have B:=zgh kv;refine ze1 (ns:=ns) (PySem.W.kdl_dict (knd:=zan X.prog X.w) (ep:=ep) lo) (I.ok.hd hc) hd f (λy it => ?_) d λa h' n e out b sz m t g j k => ?_
 ·exact ziQ (B.trans A) (by rw [ybu];exact it.1) λi v z=>it.2 i v (by rw [<- ybT];exact z)
 ·have G:=zhE g;have F:=j.length_eq;refine ⟨.ref a,_,I.laid (t':=n) (o := .lst (b.map V.int)) m sz ?_,rfl,q _ b (I.hok.fresh sz) j k⟩;exact ⟨by rw [yab];exact zah (by omega),out.toList,e,ze8 g,t⟩
theorem zfV (hc:X.calm=true):CallR X (.builtin "sorted") (λxs H Q=>∃ (p:Addr) (kvs:List (Key×V)) (ns:List Str),xs = [.ref p]/\H p=some (.dK kvs)/\kvs.map (·.1)=ns.map (ybs:Str->Key)/\ns.length < 64/\∀ (l:Addr) (b:List Str),H l=none->b.Perm ns->sortedS b=true->Q (.ref l) (upd H l (.lst (b.map V.str)))):=by
 intro pins s E H xs us Q I r h;obtain ⟨p,kvs,ns,rfl,D,A,d,q⟩:=h;obtain ⟨u,rfl,C⟩:=vals1 r;cases C;obtain ⟨hz,lo,vs,kv,c⟩:=I.hok p _ D;obtain ⟨ep,hd⟩:=c.dictAt;have f:vs.length<=yaO:=by have:=yaC kv;omega
 have B:=zgh kv;refine zer (ss:=ns) (PySem.W.kdl_dict (knd:=zan X.prog X.w) (ep:=ep) lo) (I.ok.hd hc) hd f (λy it => ?_) d λa h' n e out b sz m t g j k => ?_
 ·exact zha (B.trans A) (by rw [ybu];exact it.1) λi v z=>it.2 i v (by rw [<- ybT];exact z)
 ·have G:=zgV g;have F:=j.length_eq;refine ⟨.ref a,_,I.laid (t':=n) (o := .lst (b.map V.str)) m sz ?_,rfl,q _ b (I.hok.fresh sz) j k⟩;exact ⟨by rw [yab];exact zah (by omega),out.toList,e,zdS g,t⟩
end
section
variable {P:yas} {w:yaS} {A:yaM} {E:yae->yag->Prop} {s:yag}
end
section
variable {P:yas} {w:yaS} {A:yaM} {E:yae->yag->Prop} {s:yag}
end
section
variable {X:Cx}
end
open PySem
section
variable {prog:yas} {w:yaS} {A:yaM} {E:yae->yag->Prop} {s:yag}
end
section
variable {prog:yas} {w:yaS} {A:yaM} {E:yae->yag->Prop} {s:yag} {it a:Addr} {i n ep:Nat} {o:Obj} {es:Array (Int×yae)} {t:SetTable}
end
section
variable {prog:yas} {w:yaS} {A:yaM} {E:yae->yag->Prop} {s:yag} {it a:Addr} {i n ep:Nat} {o:Obj} {es:Array (Int×yae)} {t:SetTable}
theorem zgR {α:Type} {c:Prop} [Decidable c] {x y:Sem α} {Q:α->yag->Prop} (h:¬ c) (g:wpAny (model prog w) A y Q E s):wpAny (model prog w) A (if c then x else y) Q E s:=by rw [if_neg h];exact g
end
section
variable {prog:yas} {w:yaS} {A:yaM} {E:yae->yag->Prop} {s:yag} {it a:Addr} {i n ep:Nat} {o:Obj} {es:Array (Int×yae)} {t:SetTable}
end
section
variable {prog:yas} {w:yaS} {A:yaM} {E:yae->yag->Prop} {s:yag} {a:Addr} {ep:Nat} {o:Obj} {es:Array (Int×yae)} {t:SetTable}
end
section
variable {X:Cx} {K:PySem.W.Frag}
end
section
variable {X:Cx} {CX:CXT} {k:Nat} {ps:List Str} {ι:Type} {C:ι->Addr} {sp:ι->Sp} {E:XK} {m:Str} {pos apos:Pos} {e o:Expr} {es:List Expr} {ta:TE} {t:TA}
end
section
variable {P:yas} {w:yaS} {K:PySem.W.Frag} {mg:Str->Option yae} {base:Heap} {N:List Str} {qual:Str} {scope:Scope} {f:Addr} {cd:yae} {A:yaM} {outer:List Env} {s0:yag} {H0:Hp} {E:XK}
 {k:Nat} {ps:List Str} {ι:Type} {C:ι->Addr} {sp:ι->Sp} {m:Str} {pos apos:Pos} {e o:Expr} {es:List Expr} {ta:TE} {t:TA}
end
section
variable {X:Cx}
theorem mt_indexL:MtM X "list.index" (λx vs H Q=>∃ (l:Addr) (ys:List Str) (y:Str) (j:Nat),x = .ref l/\vs = [.str y]/\H l=some (.lst (ys.map V.str))/\ys.length<=1000/\ys[j]? = some y/\(∀ i,i < j->ys[i]?≠some y)/\Q (.int j) H):=by
 intro pins s W H x vs v us Q I N R h;obtain ⟨l,ys,y,j,rfl,rfl,C,D,B,k,q⟩:=h;cases N;obtain ⟨u,rfl,M⟩:=R.one;obtain ⟨t,rfl⟩:=M;obtain ⟨z,a,n,r,S,e⟩:=I.lstM C;have U:=zdQ r;have g:=r.length;rw [yab] at g;have O:j < ys.length:=(yav.mp B).1;have c:∀ (i:Nat) (h:i < a.length),∃ (b:Str) (t':Tok),ys[i]? = some b/\a[i] = .str b t':=λi h=>by
  have hi:i < ys.length:=by omega
  obtain ⟨w,hw,f⟩:=r.get (i:=i) (x := .str ys[i]) (by rw [yaf,yaa hi];rfl);obtain ⟨t',J⟩:=f;rw [yaa h] at hw;exact ⟨ys[i],t',yaa hi,(yaz hw).trans J⟩
 refine call_meets F.slot_list_index ⟨_,e,rfl⟩ F.entry_list_index (F.args_list_index_2 _ _)
  (SeqAt.list_indexAt l a.toArray n _ _ (.str y t) (λv=>ycH y v) j (by simp;omega) (by omega) ?_ ?_) ⟨e,?_,?_⟩
 ·obtain ⟨b,t',e1,e2⟩:=c j (by omega);rw [B] at e1;cases e1;simp only [List.getElem_toArray,e2];simp [ycH]
 ·intro m E o;have d:m < a.length:=by simpa using E
  obtain ⟨b,t',e1,e2⟩:=c m d;have p:=k m o;rw [e1] at p;simp only [List.getElem_toArray,e2];simp only [ycH,beq_eq_false_iff_ne,ne_eq];exact λz=>p (by rw [z])
 ·intro v G;obtain ⟨i,hi,L⟩:=ybo.mp (show v∈a by simpa using G);obtain ⟨b,t',e1,e2⟩:=c i hi;rw [L] at e2;subst e2;have:=zdo (A:=X.A.in1) (s:=s) (y := .str b) (x := .str y) ⟨t',rfl⟩ ⟨t,rfl⟩ rfl rfl;have e3:ycH y (.str b t')=eqV (.str b) (.str y):=by
   simp only [ycH,eqV]
  rw [e3];exact this
 ·exact ⟨.int j,H,I.tok _,⟨_,rfl⟩,q⟩
end
section
variable {P:yas} {w:yaS} {A:yaM} {E:yae->yag->Prop} {s:yag} {a:Addr} {o:Obj} {xs:Array yae} {n:Nat}
end
section
variable {X:Cx}
theorem ziJ:CallR X (.type "dict") (λxs H Q=>∃ (p:Addr) (kvs:List (Key×V)),xs = [.ref p]/\H p=some (.dK kvs)/\∀ l,H l=none->Q (.ref l) (upd H l (.dK kvs))):=by
 intro pins s e H xs us Q I r h;obtain ⟨p,kvs,rfl,d,q⟩:=h;obtain ⟨u,rfl,c⟩:=vals1 r;obtain rfl:u=yaq p:=c;exact d_copyOf I (.inl d) λl f b a=>⟨.ref l,_,a,rfl,q l b⟩
end
section
variable {P:yas} {w:yaS} {A:yaM} {E:yae->yag->Prop} {s:yag} {κ:Type} [DecidableEq κ] {knd:PySem.KeyKind P w κ} {a b:Addr}
theorem zix {nm:String} {kvs c:List (κ×yae)} {Q:Bool->yag->Prop} (ha:(a == ybz)=false) (hb:(b == ybz)=false) (d1:s.heap.DictOf knd a kvs) (d2:s.heap.DictOf knd b c) (ek:kvs.map (·.1)=c.map (·.1))
  (ev:∀ (i:Nat) (p q:κ×yae),kvs[i]? = some p->c[i]? = some q->SeqAt.EqAt A s p.2 q.2 true) (h:Q true s):wpAny (model P w) A (ydq nm a b) Q E s:=by
 obtain ⟨o1,d,ad,n,ag,m,S,M,ae⟩:=d1;obtain ⟨o2,f,aj,J,ah,y,Y,G,V⟩:=d2;have l1:d.size=kvs.length:=by rw [<- M.length];simp
 have l2:f.size=c.length:=by rw [<- G.length];simp
 have l3:kvs.length=c.length:=by have:=congrArg ycb ek;simpa using this
 unfold ydq ydB;rw [if_neg (by rw [ha];exact yaB)];refine yac (yah ?_);rw [if_neg (by rw [hb];exact yaB)];refine yac (yah ?_);refine yac (ybC n m ?_);refine yac (ybC J y ?_);rw [if_neg (by rw [l1,l2,l3];simp)];refine yac (yc4 n m ?_);refine yac ?_;rw [Std.Legacy.Range.forIn_eq_forIn_range'];simp only [Std.Legacy.Range.size,Nat.sub_zero,Nat.add_sub_cancel,Nat.div_one];refine ydk _ (λrest r s'=>s'=s/\r.1=none/\∃ i,rest=List.range' i (d.size - i)/\i<=d.size) _ ?_ ?_ _ _ ⟨rfl,rfl,0,by simp,yaW _⟩
 ·rintro x rest r s' ⟨rfl,er,i,O,hi⟩;have o:i < d.size:=by
   rcases yb6 i d.size with h | h
   ·exact h
   ·rw [Nat.sub_eq_zero_of_le h] at O;simp at O
  obtain ⟨rfl,I⟩:x=i/\rest=List.range' (i+1) (d.size - (i+1)):=by
   have e:d.size - i=(d.size - (i+1))+1:=by omega
   rw [e,List.range'_succ] at O;injection O with h1 h2;exact ⟨h1,h2⟩
  have B:x < kvs.length:=by omega
  have g:x < c.length:=by omega
  have C:x < f.size:=by omega
  refine yac (ybC n m ?_);rw [ybx o];dsimp only;obtain ⟨t,N⟩:=M.get? (e:=d[x]) (k:=kvs[x].1) (v:=kvs[x].2) (by simp [o]) (yaa B);obtain ⟨H,u⟩:=G.get? (e:=f[x]) (k:=c[x].1) (v:=c[x].2) (by simp [C]) (yaa g);obtain ⟨k',F,D⟩:=S d[x] (Array.getElem_mem o);obtain rfl:k'=kvs[x].1:=knd.inj _ _ _ F t;have R:kvs[x].1=c[x].1:=by
   have:=congrArg (λl=>l[x]?) ek;simpa [B,g] using this
  have Z:f.findIdx? (λe=>knd.is kvs[x].1 e.key)=some x:=by
   rw [Array.findIdx?_eq_some_iff_getElem];refine ⟨C,by rw [R];exact H,λj hj => ?_⟩;have U:j < f.size:=by omega
   have L:j < c.length:=by omega
   obtain ⟨W,_⟩:=G.get? (e:=f[j]) (k:=c[j].1) (v:=c[j].2) (by simp [U]) (yaa L);intro z;have e1:kvs[x].1=c[j].1:=knd.inj _ _ _ z W;have e2:(c.map (·.1))[x]'(by simpa using g)=(c.map (·.1))[j]'(by simpa using L):=by
    rw [ybl,ybl,<- R,e1]
   have:=(yb4 (h₀:=by simpa using g) (h₁:=by simpa using L) V).mp e2;omega
  refine yac (ya1 ?_);rw [D];refine yac (wpAny_dictFind_of t J y Y ?_);rw [Z];dsimp only;refine yac (ybC J y ?_);rw [ybx C];dsimp only;refine ya1 ?_;rw [N,u];refine ev x kvs[x] c[x] (yaa B) (yaa g) P w _ _ ?_;rw [if_neg (by simp)];refine yac (yc4 n m ?_);rw [if_neg (by simp)];exact yah ⟨rfl,rfl,x+1,I,o⟩
 ·rintro r s' ⟨rfl,er,i,O,hi⟩;obtain ⟨r1,r2⟩:=r;obtain rfl:r1=none:=er;exact yah h
end
section
variable {P:yas} {w:yaS} {A:yaM} {E:yae->yag->Prop} {s:yag} {κ:Type} [DecidableEq κ] {knd:PySem.KeyKind P w κ} {a b:Addr}
theorem ne_same {kvs c:List (κ×yae)} {Q:yae->yag->Prop} (j:A.units < cLine) (g:(a == ybz)=false) (m:(b == ybz)=false) (d:s.heap.DictOf knd a kvs) (e:s.heap.DictOf knd b c) (k:kvs.map (·.1)=c.map (·.1))
  (f:∀ (l:yaM) (i:Nat) (p q:κ×yae),kvs[i]? = some p->c[i]? = some q->SeqAt.EqAt l s p.2 q.2 true) (h:Q (.bool false) s):wpAny (model P w) A (yba .NotEq (.ref a) (.ref b)) Q E s:=by
 show wpAny _ _ (richCompare .NotEq (.ref a) (.ref b)) _ _ _;refine wpAny_richCompare_same_room d.typeIs e.typeIs yfx (ybi yfx d.typeIs F.entry_dict_ne ?_ (F.args_dict_ne_2 _ _)) j;show wpAny _ _ (ycU "__ne__" ⟨[.ref a,.ref b],[]⟩ >>= _) _ _ _;refine yac ?_;unfold ycU;refine yac (ydA d.typeIs ?_);show wpAny _ _ (pure (yaq a,yaq b)) _ _ _;refine yah ?_;refine yac (ydl (T := "dict") (b:=true) e.typeIs (by rw [yeM];kernel_rfl) ?_);refine zgR (by simp) ?_;refine yac (yah ?_);refine yac (yah ?_);refine yac (zix g m d e k (λi p q=>f _ i p q) ?_);exact yah ⟨_,rfl,(λx=>nomatch x),h⟩
end
section
variable {X:Cx}
theorem kv_keys {κ:Type} {kvs:List (κ×V)} {vs:List (κ×yae)} (r:KV kvs vs):vs.map (·.1)=kvs.map (·.1):=by
 induction r with
 | nil=>rfl
 | cons a _ b=>rw [yaw,yaw,b,a.1]
end
section
variable {X:Cx} {a:Addr} {kvs:List (Str×Str)}
end
def LtsAt (κ:PyProof.Rows.KeyKind) (kd:SortKind) (P:yas) (w:yaS) (A:yaM) (s:yag):Prop :=
 ∀ (E:yae->yag->Prop) (x y:yae) (a b:κ.α) (Q:Bool->yag->Prop),κ.keyOf x=some a->κ.keyOf y=some b->Q (κ.blt a b) s->wpAny (model P w) A (keyLt' kd x y) Q E s
structure SB (kd:SortKind) (a₀:Array Keyed) (st:SortSt):Prop where
 perm:(arrOf st).Perm a₀
 kind:kindOf st=kd
 failed:failedOf st=none
 pend:pendingOf st = #[]
theorem SB.size {kd:SortKind} {a₀:Array Keyed} {st:SortSt} (h:SB kd a₀ st):(arrOf st).size=a₀.size:=h.perm.size_eq
theorem SB.put {kd:SortKind} {a₀:Array Keyed} {st:SortSt} (h:SB kd a₀ st) {xs:Array Keyed} (p:xs.Perm (arrOf st)):SB kd a₀ (setArr st xs):=⟨p.trans h.perm,h.kind,h.failed,h.pend⟩
theorem SB.key {κ:PyProof.Rows.KeyKind} {kd:SortKind} {a₀:Array Keyed} {st:SortSt} (h:SB kd a₀ st) (c:KeysOf κ a₀) {i:Nat} (hi:i < a₀.size):∃ x y a,(arrOf st)[i]? = some (x,y)/\κ.keyOf x=some a/\KK κ (arrOf st) i=a:=by
 have lt:i < (arrOf st).size:=by rw [h.size];exact hi
 have e:=ybx lt;have b:(arrOf st)[i]∈a₀.toList:=(yfk.mp h.perm).mem_iff.mp (by simp);obtain ⟨a,ea⟩:=c _ b;refine ⟨_,_,a,e,ea,?_⟩;unfold KK;rw [e];show (κ.keyOf (arrOf st)[i].1).getD κ.dflt=a;rw [ea];rfl
section
variable {κ:PyProof.Rows.KeyKind} {xs:Array Keyed} {k:Nat}
theorem up_one:SortedToK κ xs 1:=λi j h1 h2=>by
 obtain rfl:i=j:=by omega
 exact κ.irrefl _
theorem dn_one:NonIncK κ xs 1:=λi j h1 h2=>by
 obtain rfl:i=j:=by omega
 exact κ.irrefl _
theorem up_more (h:SortedToK κ xs k) (h1:1<=k) (e:κ.kle (KK κ xs (k - 1)) (KK κ xs k)):SortedToK κ xs (k+1):=λi j a b=>by
 rcases yb6 j k with c | c
 ·exact h i j a c
 ·obtain rfl:j=k:=by omega
  rcases yb6 i j with d | d
  ·exact ycr (h i (j - 1) (by omega) (by omega)) e
  ·obtain rfl:i=j:=by omega
   exact κ.irrefl _
theorem zgb (h:NonIncK κ xs k) (h1:1<=k) (e:κ.kle (KK κ xs k) (KK κ xs (k - 1))):NonIncK κ xs (k+1):=λi j a b=>by
 rcases yb6 j k with c | c
 ·exact h i j a c
 ·obtain rfl:j=k:=by omega
  rcases yb6 i j with d | d
  ·exact ycr e (h i (j - 1) (by omega) (by omega))
  ·obtain rfl:i=j:=by omega
   exact κ.irrefl _
theorem dn_of {ys:Array Keyed} (h:NonIncK κ xs k) (e:∀ i,KK κ ys i=KK κ xs i):NonIncK κ ys k:=λi j a b=>by rw [e i,e j];exact h i j a b
theorem up_of_dn (h:NonIncK κ xs k) (c:k<=xs.size):SortedToK κ (mirror xs 0 k ((k - 0) / 2)) k:=λi j a b=>by
 rw [KK_mirror c,KK_mirror c,if_pos ⟨yaW _,by omega⟩,if_pos ⟨yaW _,b⟩];exact h _ _ (by omega) (by omega)
end
section
variable {P:yas} {w:yaS} {A:yaM} {E:yae->yag->Prop} {s:yag} {κ:PyProof.Rows.KeyKind} {a₀:Array Keyed} {st:SortSt} {n m:Nat} {kd:SortKind}
theorem zgk (e:LtsAt κ kd P w A s) (c:KeysOf κ a₀) {i j:Nat} {Q:Option Bool->SortSt->Prop} (B:SB kd a₀ st) (hi:i < a₀.size) (g:j < a₀.size) (h:Q (some (κ.blt (KK κ (arrOf st) i) (KK κ (arrOf st) j))) st):wpS (model P w) A E s (ltAt' i j) Q st:=by
 obtain ⟨x,p,a,e1,k1,d⟩:=B.key c hi;obtain ⟨y,r,b,e2,k2,f⟩:=B.key c g;rw [d,f] at h;rw [ltAt'_eq];refine ybv (wpS_get (ybv ?_));rw [elem'_eq,e1];refine ycf (ybv ?_);rw [elem'_eq,e2];refine ycf ?_;rw [lt'_eq];refine ybv (wpS_get (ybv ?_));rw [B.kind];exact wpS_lift (ydK (e _ x y a b _ k1 k2 ⟨rfl,ycf h⟩))
theorem asc_at (g:LtsAt κ kd P w A s) (i:KeysOf κ a₀) {Q:AscSt->SortSt->Prop} (B:SB kd a₀ st) (l1:1<=n) (l2:n<=m) (l3:m<=a₀.size) (u:SortedToK κ (arrOf st) n)
  (h:∀ k,n<=k->k<=m->SortedToK κ (arrOf st) k->(k=m\/κ.klt (KK κ (arrOf st) k) (KK κ (arrOf st) (k - 1)))->Q (none,k) st):wpS (model P w) A E s (ascLoop n m) Q st:=by
 unfold ascLoop;refine yeQ (λk c t=>t=st/\c=(none,k)/\SortedToK κ (arrOf st) k) (λk c t j l a => ?_) (λc t a => ?_) ⟨rfl,rfl,u⟩
 ·obtain ⟨d,f,b⟩:=a;subst d f;refine ybv (zgk g i B (by omega) (by omega) ?_);cases less:κ.blt (KK κ (arrOf t) k) (KK κ (arrOf t) (k - 1))
  ·exact ycf ⟨rfl,rfl,up_more b (by omega) less⟩
  ·exact ycf (h k j (by omega) b (.inr less))
 ·obtain ⟨d,f,b⟩:=a;subst d f;have e:max n m=m:=by omega
  rw [e] at b ⊢;exact h m l2 (yaj _) b (.inl rfl)
theorem tail_at (b:LtsAt κ kd P w A s) (f:KeysOf κ a₀) {Q:Option Nat->SortSt->Prop} (B:SB kd a₀ st) (l1:1<=n) (l2:n<=m) (l3:m<=a₀.size) (d:NonIncK κ (arrOf st) n)
  (h:∀ k t,SB kd a₀ t->1<=k->k<=m->SortedToK κ (arrOf t) k->Q (some k) t):wpS (model P w) A E s (tail3 n m) Q st:=by
 have a:SB kd a₀ (setArr st (mirror (arrOf st) 0 n ((n - 0) / 2))):=B.put (mirror_perm _ _ _ _);unfold tail3;refine ybv (wpS_reverse (ybv (asc_at b f a l1 l2 l3 (up_of_dn d (by rw [B.size];omega)) λk g e c _ => ?_)));exact ycf (h k _ a (by omega) e c)
def Fall (κ:PyProof.Rows.KeyKind) (xs:Array Keyed) (k q:Nat):Prop:=NonIncK κ xs k/\q+1<=k/\∀ i,k - (q+1)<=i->i < k->KK κ xs i=KK κ xs (k - 1)
theorem fall0 {xs:Array Keyed} {k:Nat} (d:NonIncK κ xs k) (h:1<=k):Fall κ xs k 0:=⟨d,h,λi a b=>by rw [show i=k - 1 by omega]⟩
theorem desc_at (u:LtsAt κ kd P w A s) (v:KeysOf κ a₀) {Q:DescSt->SortSt->Prop} (B:SB kd a₀ st) (l1:1<=n) (l2:n<=m) (l3:m<=a₀.size) (d:NonIncK κ (arrOf st) n)
  (h:∀ k q t,SB kd a₀ t->n<=k->k<=m->Fall κ (arrOf t) k q->Q (none,k,q) t):wpS (model P w) A E s (descLoop n m) Q st:=by
 unfold descLoop;refine yeQ (λk c t=>∃ q,c=(none,k,q)/\SB kd a₀ t/\Fall κ (arrOf t) k q) (λk c t C D g => ?_) (λc t g => ?_) ⟨0,rfl,B,fall0 d l1⟩
 ·obtain ⟨q,r,f,⟨p,z,o⟩⟩:=g;subst r;have sz:k<=(arrOf t).size:=by rw [f.size];omega
  refine ybv (zgk (i:=k) (j:=k - 1) u v f (by omega) (by omega) ?_);cases less:κ.blt (KK κ (arrOf t) k) (KK κ (arrOf t) (k - 1))
  ·refine ybv (zgk (i:=k - 1) (j:=k) u v f (by omega) (by omega) ?_);cases l:κ.blt (KK κ (arrOf t) (k - 1)) (KK κ (arrOf t) k)
   ·have y:KK κ (arrOf t) k=KK κ (arrOf t) (k - 1):=κ.total _ _ less l;refine ycf ⟨q+1,rfl,f,zgb p (by omega) (by rw [y];exact κ.irrefl _),by omega,λi a b => ?_⟩;rw [Nat.add_sub_cancel];rcases yb6 i k with c | c
    ·rw [o i (by omega) c,y]
    ·rw [show i=k by omega]
   ·exact ycf (h k q t f C (by omega) ⟨p,z,o⟩)
  ·have step:NonIncK κ (arrOf t) (k+1):=zgb p (by omega) (ycl less);by_cases c:q > 0
   ·simp only [if_pos c,if_true];refine ybv (wpS_reverse (ycf ⟨0,rfl,f.put (mirror_perm _ _ _ _),fall0 (dn_of step (KK_mirror_equal sz o)) (by omega)⟩))
   ·simp only [if_neg c,if_true];exact ycf ⟨0,rfl,f,fall0 step (by omega)⟩
 ·obtain ⟨q,r,f,F⟩:=g;subst r;have e:max n m=m:=by omega
  rw [e] at F ⊢;exact h m q t f l2 (yaj _) F
theorem part_at (a:LtsAt κ kd P w A s) (e:KeysOf κ a₀) {Q:Option Nat->SortSt->Prop} (B:SB kd a₀ st) (l2:n+1<=m) (l3:m<=a₀.size) (d:NonIncK κ (arrOf st) (n+1))
  (h:∀ k t,SB kd a₀ t->1<=k->k<=m->SortedToK κ (arrOf t) k->Q (some k) t):wpS (model P w) A E s (descPart n m) Q st:=by
 unfold descPart;refine ybv (wpS_lift (yed ⟨rfl,ybv (desc_at a e B (yeX (yaW _)) l2 l3 d λk q t f o g b => ?_)⟩));obtain ⟨i,l,j⟩:=b;have sz:k<=(arrOf t).size:=by rw [f.size];omega
 by_cases c:q > 0
 ·simp only [if_pos c];exact ybv (wpS_reverse (tail_at a e (f.put (mirror_perm _ _ _ _)) (by omega) g l3 (dn_of i (KK_mirror_equal sz j)) h))
 ·simp only [if_neg c];exact tail_at a e f (by omega) g l3 i h
theorem count_at (e:LtsAt κ kd P w A s) (f:KeysOf κ a₀) {Q:Option Nat->SortSt->Prop} (B:SB kd a₀ st) (l1:1<=m) (l3:m<=a₀.size)
  (h:∀ k t,SB kd a₀ t->1<=k->k<=m->SortedToK κ (arrOf t) k->Q (some k) t):wpS (model P w) A E s (countRun' 0 m) Q st:=by
 rw [countRun0_eq];refine ybv (asc_at e f B (yaj 1) l1 l3 up_one λk n l g or => ?_);by_cases c:k=m
 ·simp only [show (k == m)=true by simpa using c,if_true];exact ycf (h k st B n l g)
 have lt:=or.resolve_left c;simp only [show (k == m)=false by simpa using c,yaR,if_false];by_cases c1:k > 1
 ·simp only [if_pos c1];refine ybv (zgk e f B (by omega) (by omega) ?_);cases d:κ.blt (KK κ (arrOf st) 0) (KK κ (arrOf st) (k - 1))
  ·have sz:k<=(arrOf st).size:=by rw [B.size];omega
   have one:∀ i,0<=i->i < k->KK κ (arrOf st) i=KK κ (arrOf st) (k - 1):=λi _ hi =>
    PyProof.Rows.KeyOrd.kle_antisymm (g i (k - 1) (by omega) (by omega)) (ycr (show κ.kle _ _ from d) (g 0 i (yaW _) hi))
   have same:=KK_mirror_equal (κ:=κ) (i:=0) sz one;refine ybv (wpS_reverse (part_at e f (B.put (mirror_perm _ _ _ _)) (by omega) l3 (dn_of (zgb (λi j a b => ?_) (by omega) (ycl lt)) same) h));rw [one i (yaW _) (by omega),one j (yaW _) b];exact κ.irrefl _
  ·exact ycf (h k st B n l g)
 ·simp only [if_neg c1];obtain rfl:k=1:=by omega
  exact part_at e f B (by omega) l3 (zgb dn_one (yaj 1) (ycl lt)) h
end
section
variable {P:yas} {w:yaS} {A:yaM} {E:yae->yag->Prop} {s:yag} {κ:PyProof.Rows.KeyKind} {a₀:Array Keyed} {st:SortSt} {n m:Nat} {kd:SortKind}
def Slot2 (κ:PyProof.Rows.KeyKind) (xs:Array Keyed) (k l r:Nat):Prop:=(∀ i,i < l->κ.kle (KK κ xs i) (KK κ xs k))/\∀ i,r<=i->i < k->κ.klt (KK κ xs k) (KK κ xs i)
theorem put_up {xs:Array Keyed} {k l:Nat} (u:SortedToK κ xs k) (e:k < xs.size) (f:l<=k) (p:Slot2 κ xs k l l):SortedToK κ (bubble xs k (k - l)) (k+1):=by
 obtain ⟨lo,hi⟩:=p;have a:∀ i,KK κ (bubble xs k (k - l)) i=if i=l then KK κ xs k else if l < i/\i<=k then KK κ xs (i - 1) else KK κ xs i:=λi=>by
  rw [KK_bubble e (Nat.sub_le _ _) i,show k - (k - l)=l by omega]
 intro i j d g;rw [a i,a j];by_cases c1:i=l <;> by_cases c2:j=l
 ·rw [if_pos c1,if_pos c2];exact κ.irrefl _
 ·rw [if_pos c1,if_neg c2,if_pos ⟨by omega,by omega⟩];exact ycl (hi (j - 1) (by omega) (by omega))
 ·rw [if_neg c1,if_pos c2,if_neg (λz=>by omega)];exact lo i (by omega)
 ·rw [if_neg c1,if_neg c2];by_cases b:l < i/\i<=k <;> by_cases c:l < j/\j<=k
  ·rw [if_pos b,if_pos c];exact u _ _ (by omega) (by omega)
  ·exact absurd b (by omega)
  ·rw [if_neg b,if_pos c];exact u _ _ (by omega) (by omega)
  ·rw [if_neg b,if_neg c];exact u _ _ d (by omega)
theorem bin_at (D:LtsAt κ kd P w A s) (G:KeysOf κ a₀) {Q:Bool->SortSt->Prop} (B:SB kd a₀ st) (l2:n<=m) (l3:m<=a₀.size) (u:SortedToK κ (arrOf st) n)
  (h:∀ t,SB kd a₀ t->SortedToK κ (arrOf t) m->Q true t):wpS (model P w) A E s (binarySort' 0 m n) Q st:=by
 rw [binarySort'_eq];simp only [Nat.zero_add];refine ybv (wpS_mono (yeQ (λk c t=>c=(none,())/\SB kd a₀ t/\SortedToK κ (arrOf t) (if k<=m then k else m)) (Q:=λc t=>c=(none,())/\SB kd a₀ t/\SortedToK κ (arrOf t) m) (λk c t M C ⟨f,g,d⟩ => ?stp) (λc t ⟨f,g,d⟩=>⟨f,g,?fin⟩) ⟨rfl,B,?ini⟩) λc t ⟨f,g,d⟩ => ?pst)
 case stp =>
  subst f;rw [if_pos (yc6 C)] at d;refine ybv (wpS_mono (yeQ (λx c t2=>t2=t/\∃ l r,c=(none,l,r)/\l<=r/\r<=k/\r - l<=k - x/\Slot2 κ (arrOf t) k l r) (Q:=λc t2=>t2=t/\∃ l r,c=(none,l,r)/\l<=k/\Slot2 κ (arrOf t) k l l) (λx c t2 J L ⟨o,l,r,f,I,q,F,lo,hi⟩ => ?stp2) (λc t2 ⟨o,l,r,f,I,q,F,p⟩ => ?fin2) ⟨rfl,0,k,rfl,yaW _,yaj _,yaj _,(λi z=>absurd z (ydy _)),λi y v=>absurd v (by omega)⟩) λc t2 ⟨o,l,r,f,H,p⟩ => ?pst2)
  case stp2 =>
   subst o f;dsimp only;by_cases c:l ≥ r
   ·rw [if_pos c];obtain rfl:l=r:=by omega
    exact ycf ⟨rfl,l,l,rfl,q,lo,hi⟩
   rw [if_neg c];refine ybv (zgk (i:=k) (j:=(l+r) / 2) D G g (by omega) (by omega) ?_);cases less:κ.blt (KK κ (arrOf t2) k) (KK κ (arrOf t2) ((l+r) / 2))
   ·exact ycf ⟨rfl,(l+r) / 2+1,r,rfl,by omega,q,by omega,(λi z=>ycr (d i ((l+r) / 2) (by omega) (by omega)) less),hi⟩
   ·exact ycf ⟨rfl,l,(l+r) / 2,rfl,by omega,by omega,by omega,lo,λi y v=>PyProof.Rows.KeyOrd.klt_of_klt_of_kle less (d _ i y v)⟩
  case fin2 =>
   have e:l=r:=by omega
   rw [<- e] at p;exact ⟨o,l,r,f,by omega,p⟩
  case pst2 =>
   subst o f;show wpS _ _ _ _ (moveDown' k l >>= λ_=>pure (yc1 (none,()))) _ _;rw [moveDown'_eq];refine ybv (wpS_modify (ycf ⟨rfl,g.put (bubble_perm _ _ _),?_⟩));rw [if_pos (show k+1<=m from C)];exact put_up d (by rw [g.size];omega) H p
 case fin =>
  by_cases c:max (max n 1) m<=m
  ·rw [if_pos c,show max (max n 1) m=m by omega] at d;exact d
  ·rw [if_neg c] at d;exact d
 case ini =>
  by_cases c:max n 1<=m
  ·rw [if_pos c];rcases Nat.eq_zero_or_pos n with z | z
   ·rw [z];exact up_one
   ·rw [show max n 1=n by omega];exact u
  ·rw [if_neg c];intro i j a b;omega
 case pst =>
  subst f;exact ycf (h t g d)
theorem run_min (h:n < 64) (h2:1<=n):minRun' n n 0=n:=by
 obtain ⟨k,rfl⟩:∃ k,n=k+1:=⟨n - 1,by omega⟩;rw [minRun'_succ,if_pos h]
def Done2 (κ:PyProof.Rows.KeyKind) (a₀:Array Keyed) (t:SortSt):Prop:=(arrOf t).Perm a₀/\failedOf t=none/\(pendingOf t).size=1/\SortedToK κ (arrOf t) a₀.size
theorem runs_at (g:LtsAt κ kd P w A s) (i:KeysOf κ a₀) {Q:Unit->SortSt->Prop} (B:SB kd a₀ st) (l2:2<=a₀.size) (d:a₀.size < 64)
  (h:∀ t,(arrOf t).Perm a₀->failedOf t=none->SortedToK κ (arrOf t) a₀.size->Q () t):wpS (model P w) A E s sortRuns' Q st:=by
 have fin:∀ {t:SortSt},SB kd a₀ t->SortedToK κ (arrOf t) a₀.size->Done2 κ a₀ (setPending t ((pendingOf t).push (0,a₀.size,0))):=λ{t} a u=>⟨a.perm,a.failed,by show ((pendingOf t).push _).size=1;rw [a.pend];rfl,u⟩;rw [sortRuns'_eq];refine ybv (wpS_get ?_);simp only [B.size,run_min d (by omega)];refine ybv (wpS_mono (yeQ (λx c t=>(x=0/\c=(none,0)/\SB kd a₀ t)\/(0 < x/\c=(none,a₀.size)/\Done2 κ a₀ t)) (Q:=λc t=>c=(none,a₀.size)/\Done2 κ a₀ t) (λx c t p o I => ?stp) (λc t I => ?fin) (.inl ⟨rfl,rfl,B⟩)) λc t ⟨b,D⟩ => ?pst)
 case stp =>
  rcases I with ⟨rfl,rfl,a⟩ | ⟨_,rfl,D⟩
  ·simp only [if_neg (show ¬ 0 ≥ a₀.size by omega),Nat.sub_zero,Nat.min_self,Nat.zero_add];refine ybv (count_at g i a (by omega) (yaj _) λk t2 e k1 k2 j => ?_);by_cases c:k < a₀.size
   ·simp only [if_pos c];refine ybv (wpS_lift (yed ⟨rfl,ybv (bin_at g i e k2 (yaj _) j λn l m => ?_)⟩));simp only [ye1,yaR,if_false];refine ybv (wpS_get ?_);rw [show (pendingOf n).back? = none by rw [l.pend];rfl];exact ybv (wpS_modify (ycf (.inr ⟨Nat.succ_pos _,rfl,fin l m⟩)))
   ·simp only [if_neg c];obtain rfl:k=a₀.size:=by omega
    refine ybv (wpS_get ?_);rw [show (pendingOf t2).back? = none by rw [e.pend];rfl];exact ybv (wpS_modify (ycf (.inr ⟨Nat.succ_pos _,rfl,fin e j⟩)))
  ·simp only [if_pos (yaj _),ge_iff_le];exact ycf ⟨rfl,D⟩
 case fin =>
  rcases I with ⟨z,_,_⟩ | ⟨_,z,D⟩
  ·omega
  ·exact ⟨z,D⟩
 case pst =>
  subst b;refine ybv (wpS_mono (yeQ (λ_ c t2=>t2=t/\c=(none,())) (Q:=λc t2=>t2=t/\c=(none,())) (λx c t2 _ _ ⟨f,b⟩ => ?stp2) (λ_ _ z=>z) ⟨rfl,rfl⟩) λc t2 ⟨f,b⟩ => ?pst2)
  case stp2 =>
   subst f b;refine ybv (wpS_get ?_);rw [if_pos (by rw [D.2.2.1];exact yaj 1)];exact ycf ⟨rfl,rfl⟩
  case pst2 =>
   subst f b;exact ycf (h _ D.1 D.2.1 D.2.2.2)
end
noncomputable def ltKey:Key->Key->Bool
 | .inl i,.inl j=>decide (i < j)
 | .inr x,.inr y=>decide (x.cps.toList < y.cps.toList)
 | .inl _,.inr _=>true
 | .inr _,.inl _=>false
def zaG:List Key->List Key->Bool
 | [],[]=>false
 | [],_ :: _=>true
 | _ :: _,[]=>false
 | x :: xs,y :: ys=>if x=y then zaG xs ys else ltKey x y
theorem ltKey_irr (a:Key):ltKey a a=false:=by
 cases a with
 | inl i=>simp [ltKey]
 | inr x=>simpa [ltKey] using List.lt_irrefl x.cps.toList
theorem str_eq {x y:Str} (h:x.cps.toList=y.cps.toList):x=y:=by
 obtain ⟨⟨x⟩⟩:=x;obtain ⟨⟨y⟩⟩:=y;have h:x=y:=h;rw [h]
theorem zeD {a b:Key} (h1:ltKey a b=false) (h2:ltKey b a=false):a=b:=by
 cases a with
 | inl i =>
  cases b with
  | inl j =>
   simp only [ltKey,decide_eq_false_iff_not] at h1 h2;rw [show i=j by omega]
  | inr y=>cases h1
 | inr x =>
  cases b with
  | inl j=>cases h2
  | inr y =>
   simp only [ltKey,decide_eq_false_iff_not] at h1 h2;rw [str_eq (List.le_antisymm (List.not_lt.mp h2) (List.not_lt.mp h1))]
theorem zg8 {a b c:Key} (h1:ltKey a b=true) (h2:ltKey b c=true):ltKey a c=true:=by
 cases a <;> cases b <;> cases c <;> simp only [ltKey,decide_eq_true_eq,yaR] at * <;> first | omega | exact List.lt_trans h1 h2
theorem zdz:∀ a,zaG a a=false
 | []=>rfl
 | x :: xs=>by
  show (if x=x then zaG xs xs else ltKey x x)=false;rw [if_pos rfl];exact zdz xs
theorem zbT:∀ {a b},zaG a b=false->zaG b a=false->a=b
 | [],[],_,_=>rfl
 | [],_ :: _,h,_=>nomatch h
 | _ :: _,[],_,h=>nomatch h
 | x :: xs,y :: ys,h1,h2=>by
  have h1:(if x=y then zaG xs ys else ltKey x y)=false:=h1;have h2:(if y=x then zaG ys xs else ltKey y x)=false:=h2;by_cases e:x=y
  ·rw [if_pos e] at h1;rw [if_pos e.symm] at h2;rw [e,zbT h1 h2]
  ·rw [if_neg e] at h1;rw [if_neg (λz=>e z.symm)] at h2;exact absurd (zeD h1 h2) e
theorem zcs:∀ {a b c},zaG a b=true->zaG b c=true->zaG a c=true
 | [],[],_,h,_=>nomatch h
 | [],_ :: _,[],_,h=>nomatch h
 | [],_ :: _,_ :: _,_,_=>rfl
 | _ :: _,[],_,h,_=>nomatch h
 | _ :: _,_ :: _,[],_,h=>nomatch h
 | x :: xs,y :: ys,z :: zs,h1,h2=>by
  have h1:(if x=y then zaG xs ys else ltKey x y)=true:=h1;have h2:(if y=z then zaG ys zs else ltKey y z)=true:=h2;show (if x=z then zaG xs zs else ltKey x z)=true;by_cases e1:x=y <;> by_cases e2:y=z
  ·rw [if_pos e1] at h1;rw [if_pos e2] at h2;rw [if_pos (e1.trans e2)];exact zcs h1 h2
  ·rw [if_neg e2] at h2;rw [e1,if_neg e2];exact h2
  ·rw [if_neg e1] at h1;rw [<- e2,if_neg e1];exact h1
  ·rw [if_neg e1] at h1;rw [if_neg e2] at h2;have t:=zg8 h1 h2;rw [if_neg (λz=>by rw [z,ltKey_irr] at t;cases t)];exact t
theorem ziu {a c:List Key} (b:List Key) (h:zaG a c=true):zaG a b=true\/zaG b c=true:=by
 cases h1:zaG a b
 ·cases h2:zaG b c
  ·exfalso;cases d:zaG b a
   ·rw [zbT h1 d] at h;rw [h] at h2;cases h2
   ·rw [zcs d h] at h2;cases h2
  ·exact .inr rfl
 ·exact .inl rfl
def zay:List Bool->List Key->Bool
 | [],[]=>true
 | true :: ks,.inl _ :: xs=>zay ks xs
 | false :: ks,.inr _ :: xs=>zay ks xs
 | _,_=>false
def zbJ:yae->Option Key
 | .int i _=>some (.inl i)
 | .str x _=>some (.inr x)
 | _=>none
def zbI (h:Heap):yae->Option (List Key)
 | .ref p=>match h.get? p with
  | some o=>match o.data with
   | .seq items _=>if o.cls = .type "tuple" then items.toList.mapM zbJ else none
   | _=>none
  | none=>none
 | _=>none
@[reducible] def tupOrd (h:Heap) (ks:List Bool):PyProof.Rows.KeyKind where
 α:=List Key
 blt:=zaG
 irrefl:=zdz
 trans _ _ _:=zcs
 negTrans _ b _:=ziu b
 total _ _:=zbT
 keyOf v:=(zbI h v).filter (zay ks)
 dflt := []
theorem zgi (b:Bool) (x y:yae):keyLt' (tuples' b) x y=(do
  let xs <- ycC x;let ys <- ycC y
  for ((p,q),i) in (xs.toList.zip ys.toList).zipIdx do
   if !(<- eqBool p q) then return <- oneLt' (b&&i == 0) p q
  return xs.size < ys.size):=rfl
section
variable {P:yas} {w:yaS} {A:yaM} {E:yae->yag->Prop} {s:yag}
theorem oneLt_any {b:Bool} {x y:yae} {k l:Key} {Q:Bool->yag->Prop} (c:zbJ x=some k) (a:zbJ y=some l) (d:zay [k.isLeft] [l]=true) (h:Q (ltKey k l) s):wpAny (model P w) A (oneLt' b x y) Q E s:=by
 cases x with
 | int i t =>
  cases c;cases y with
  | int j u =>
   cases a;cases b with
   | true=>exact oneLt_int h
   | false =>
    rw [oneLt'_eq];simp only [yaR,if_false];refine yac (show wpAny (model P w) A (yba .Lt (.int i t) (.int j u)) _ _ s from lt_int ?_);exact ybj h
  | str y u=>cases a;cases d
  | _=>cases a
 | str x t =>
  cases c;cases y with
  | int j u=>cases a;cases d
  | str y u =>
   cases a;cases b with
   | true=>exact oneLt_str h
   | false =>
    rw [oneLt'_eq];simp only [yaR,if_false];refine yac (show wpAny (model P w) A (yba .Lt (.str x t) (.str y u)) _ _ s from PyProof.Rows.lt_str ?_);exact ybj h
  | _=>cases a
 | _=>cases c
theorem keyV_eq {x y:yae} {k l:Key} (b:zbJ x=some k) (a:zbJ y=some l):SeqAt.EqAt A s x y (decide (k=l)):=by
 cases x with
 | int i t =>
  cases b;cases y with
  | int j u =>
   cases a;have:=zdo (A:=A) (s:=s) (y := .int i) (x := .int j) ⟨t,rfl⟩ ⟨u,rfl⟩ rfl rfl;rw [show eqV (.int i) (.int j)=decide ((.inl i:Key) = .inl j) by show (i == j)=_;by_cases e:i=j <;> simp [e]] at this;exact this
  | str y u =>
   cases a;exact zdo (A:=A) (s:=s) (y := .int i) (x := .str y) ⟨t,rfl⟩ ⟨u,rfl⟩ rfl rfl
  | _=>cases a
 | str x t =>
  cases b;cases y with
  | int j u =>
   cases a;exact zdo (A:=A) (s:=s) (y := .str x) (x := .int j) ⟨t,rfl⟩ ⟨u,rfl⟩ rfl rfl
  | str y u =>
   cases a;have:=zdo (A:=A) (s:=s) (y := .str x) (x := .str y) ⟨t,rfl⟩ ⟨u,rfl⟩ rfl rfl;rw [show eqV (.str x) (.str y)=decide ((.inr x:Key) = .inr y) by show (x == y)=_;by_cases e:x=y <;> simp [e]] at this;exact this
  | _=>cases a
 | _=>cases b
end
theorem zbt:∀ {ks:List Bool} {a:List Key},zay ks a=true->a.length=ks.length
 | [],[],_=>rfl
 | true :: ks,.inl _ :: a,h=>congrArg (· + 1) (zbt (ks:=ks) h)
 | false :: ks,.inr _ :: a,h=>congrArg (· + 1) (zbt (ks:=ks) h)
 | [],_ :: _,h=>nomatch h
 | _ :: _,[],h=>by cases ‹Bool› <;> cases h
 | true :: _,.inr _ :: _,h=>nomatch h
 | false :: _,.inl _ :: _,h=>nomatch h
theorem zir:∀ {ks:List Bool} {x y:Key} {a b:List Key},zay ks (x :: a)=true->zay ks (y :: b)=true->zay [x.isLeft] [y]=true/\∃ c,zay c a=true/\zay c b=true
 | [],x,y,a,b,h,_=>nomatch h
 | true :: ks,.inl i,.inl j,a,b,h1,h2=>⟨rfl,ks,h1,h2⟩
 | false :: ks,.inr i,.inr j,a,b,h1,h2=>⟨rfl,ks,h1,h2⟩
 | true :: ks,.inl i,.inr j,a,b,h1,h2=>nomatch h2
 | false :: ks,.inr i,.inl j,a,b,h1,h2=>nomatch h2
 | true :: ks,.inr i,_,a,b,h1,h2=>nomatch h1
 | false :: ks,.inl i,_,a,b,h1,h2=>nomatch h1
theorem zdd:∀ {xs:List yae} {a:List Key},xs.mapM zbJ=some a->Paired (λv k=>zbJ v=some k) xs a
 | [],a,h=>by
  cases h;exact .nil
 | x :: xs,a,h=>by
  rw [List.mapM_cons] at h;cases e:zbJ x with
  | none=>rw [e] at h;cases h
  | some k =>
   rw [e] at h;cases e2:xs.mapM zbJ with
   | none=>rw [e2] at h;cases h
   | some l =>
    rw [e2] at h;cases h;exact .cons e (zdd e2)
section
variable {P:yas} {w:yaS} {A:yaM} {E:yae->yag->Prop} {s:yag}
theorem zhR {m:Bool} {b:Bool} {Q:Bool->yag->Prop}:∀ {xs ys:List yae} {a c:List Key} {ks:List Bool} (n:Nat),Paired (λv k=>zbJ v=some k) xs a->Paired (λv k=>zbJ v=some k) ys c->zay ks a=true->zay ks c=true->(if a=c then Q m s else Q (zaG a c) s) ->
  wpAny (model P w) A (do
   for ((p,q),i) in (xs.zip ys).zipIdx n do
    if !(<- eqBool p q) then return <- oneLt' (b&&i == 0) p q
   return m) Q E s
 | _,_,_,_,ks,n,.nil,.nil,_,_,h=>by
  simp only [List.zip_nil_left,List.zipIdx_nil,ydV,pure_bind];rw [if_pos rfl] at h;exact yah h
 | _,_,_,_,ks,n,.nil,.cons _ _,h1,h2,_=>by
  have:=zbt h1;have:=zbt h2;simp at *;omega
 | _,_,_,_,ks,n,.cons _ _,.nil,h1,h2,_=>by
  have:=zbt h1;have:=zbt h2;simp at *;omega
 | x :: xs,y :: ys,k :: a,l :: c,ks,n,.cons e1 r1,.cons e2 r2,h1,h2,h=>by
  obtain ⟨f,j,o,g⟩:=zir h1 h2;simp only [List.zip_cons_cons,List.zipIdx_cons,yc2,bind_assoc];refine yac (keyV_eq e1 e2 P w _ _ ?_);by_cases e:k=l
  ·simp only [e,decide_true,ye1,yaR,if_false,pure_bind];refine zhR (n+1) r1 r2 o g ?_;have d:zaG (k :: a) (l :: c)=if k=l then zaG a c else ltKey k l:=rfl;rw [d,if_pos e] at h;subst e;by_cases z:a=c
   ·rw [if_pos z];rw [if_pos (by rw [z])] at h;exact h
   ·rw [if_neg z];rw [if_neg (λy=>z (yeq y).2)] at h;exact h
  ·simp only [e,decide_false,Bool.not_false,if_true,bind_assoc,pure_bind];have d:zaG (k :: a) (l :: c)=if k=l then zaG a c else ltKey k l:=rfl;rw [d,if_neg e,if_neg (λy=>e (yeq y).1)] at h;refine yac (oneLt_any e1 e2 f ?_);exact yah h
theorem zb1 {h:Heap} {v:yae} {a:List Key} (e:zbI h v=some a):∃ p o items c,v = .ref p/\h.get? p=some o/\o.data = .seq items c/\o.cls = .type "tuple"/\items.toList.mapM zbJ=some a:=by
 cases v with
 | ref p =>
  unfold zbI at e;dsimp only at e;cases b:h.get? p with
  | none=>rw [b] at e;cases e
  | some o =>
   rw [b] at e;dsimp only at e;split at e
   ·rename_i items c hd;split at e
    ·rename_i hc;exact ⟨p,o,items,c,rfl,b,hd,hc,e⟩
    ·cases e
   ·cases e
 | _=>cases e
theorem filter_some {α:Type} {o:Option α} {p:α->Bool} {a:α} (h:o.filter p=some a):o=some a/\p a=true:=by
 cases o with
 | none=>cases h
 | some b =>
  rw [Option.filter_some] at h;split at h
  ·cases h;exact ⟨rfl,by assumption⟩
  ·cases h
theorem lts_tup {ks:List Bool} (b:Bool):LtsAt (tupOrd s.heap ks) (tuples' b) P w A s:=by
 intro E x y a c Q j p q;obtain ⟨h,ox⟩:=filter_some j;obtain ⟨l,g⟩:=filter_some p;obtain ⟨p1,v,i1,c1,rfl,r,i,_,o⟩:=zb1 h;obtain ⟨u,t,i2,c2,rfl,n,m,_,k⟩:=zb1 l;rw [zgi];refine yac (listItems_at r i ?_);refine yac (listItems_at n m ?_);have f:=zdd o;have d:=zdd k;have z:decide (i1.size < i2.size)=false:=by
  have l1:=f.length;have l2:=d.length;have l3:=zbt ox;have l4:=zbt g;simp at *;omega
 rw [z];refine zhR 0 f d ox g ?_;have q:Q (zaG a c) s:=q;by_cases e:a=c
 ·rw [if_pos e];rw [e,zdz] at q;exact q
 ·rw [if_neg e];exact q
end
def zdT (h:Heap):yae->Option yae
 | .ref p=>match h.get? p with
  | some o=>match o.data with
   | .seq items _=>items[0]?
   | _=>none
  | none=>none
 | _=>none
section
variable {P:yas} {w:yaS} {A:yaM} {E:yae->yag->Prop} {s:yag}
theorem zhb {α a:Type} {f:α->Sem a} {g:α->a}:∀ {l:List α} {Q:List a->yag->Prop},(∀ x∈l,∀ b:a->yag->Prop,b (g x) s->wpAny (model P w) A (f x) b E s)->Q (l.map g) s->wpAny (model P w) A (l.mapM f) Q E s
 | [],Q,_,q=>by
  rw [List.mapM_nil];exact yah q
 | x :: l,Q,h,q=>by
  rw [List.mapM_cons];refine yac (h x yax _ ?_);refine yac (zhb (λy c=>h y (yal _ c)) ?_);exact yah q
theorem zfL {k:Bool} {ks:List Bool} {v:yae} {a:List Key} {h:Heap} (e:(tupOrd h (k :: ks)).keyOf v=some a):∃ u,zdT h v=some u/\((k=true/\∃ i t,u = .int i t)\/(k=false/\∃ x t,u = .str x t)):=by
 obtain ⟨f,ok⟩:=filter_some e;obtain ⟨p,o,items,c,rfl,g,d,_,m⟩:=zb1 f;have r:=zdd m;unfold zdT;dsimp only;rw [g];dsimp only;rw [d];dsimp only;rw [<- ybT];generalize items.toList=l at r;cases r with
 | nil=>cases k <;> cases ok
 | cons b n =>
  rename_i u kk _ _;refine ⟨u,rfl,?_⟩;cases k with
  | true =>
   cases kk with
   | inr x=>cases ok
   | inl i =>
    cases u with
    | int j t=>exact .inl ⟨rfl,j,t,rfl⟩
    | str y t=>cases b
    | _=>cases b
  | false =>
   cases kk with
   | inl x=>cases ok
   | inr i =>
    cases u with
    | int j t=>cases b
    | str y t=>exact .inr ⟨rfl,y,t,rfl⟩
    | _=>cases b
theorem first_at {k:Bool} {ks:List Bool} {v:yae} {a:List Key} {Q:Option yae->yag->Prop} (e:(tupOrd s.heap (k :: ks)).keyOf v=some a) (q:Q (zdT s.heap v) s):wpAny (model P w) A (firstOfTuple' v) Q E s:=by
 obtain ⟨b,ok⟩:=filter_some e;obtain ⟨p,o,items,c,rfl,g,d,hc,m⟩:=zb1 b;show wpAny (model P w) A (do
  if (<- typeOf (.ref p)) != .type "tuple" then return none
  return (<- ycC (.ref p))[0]?) Q E s
 refine yac (ydt (T := "tuple") ⟨o,g,hc⟩ ?_);simp only [bne_self_eq_false,yaR,if_false];refine yac (listItems_at g d (yah ?_));unfold zdT at q;dsimp only at q;rw [g] at q;dsimp only at q;rw [d] at q;exact q
theorem kind_at {k:Bool} {ks:List Bool} {b:yae} {vs:List yae} {Q:SortKind->yag->Prop} (f:∀ v∈b :: vs,∃ a,(tupOrd s.heap (k :: ks)).keyOf v=some a) (q:Q (tuples' true) s):wpAny (model P w) A (keyKind' (b :: vs).toArray) Q E s:=by
 rw [keyKind'_eq,List.mapM_toArray,bind_map_left];refine yac (zhb (g:=zdT s.heap) (λv p h j=>let ⟨a,e⟩:=f v p;first_at e j) ?_);have y:((b :: vs).map (zdT s.heap)).toArray.all (·.isSome)=true:=by
  rw [List.all_toArray,ydx,yaX];intro v p;obtain ⟨a,e⟩:=f v p;obtain ⟨u,o,_⟩:=zfL e;show (zdT s.heap v).isSome=true;rw [o];rfl
 rw [if_pos y];refine yac (yed ?_);obtain ⟨us,d,m⟩:∃ us:List yae,(b :: vs).map (zdT s.heap)=us.map some/\∀ u∈us,((k=true/\∃ i t,u = .int i t)\/(k=false/\∃ x t,u = .str x t)):=by
  clear y q;generalize b :: vs=l at f
  induction l with
  | nil=>exact ⟨[],rfl,(λ_ z=>nomatch z)⟩
  | cons v l G =>
   obtain ⟨a,e⟩:=f v yax;obtain ⟨u,o,F⟩:=zfL e;obtain ⟨us,e2,k2⟩:=G λx r=>f x (yal _ r);refine ⟨u :: us,by rw [yaw,yaw,o,e2],λx r => ?_⟩;rcases yaJ.mp r with z | z
   ·rw [z];exact F
   ·exact k2 x z
 rw [d];have H:(us.map some).toArray.filterMap id=us.toArray:=by simp
 rw [H,oneTypeOnly'_eq,List.mapM_toArray,bind_map_left,bind_assoc];have B:us ≠ []:=by
  intro z;rw [z] at d;cases d
 have C:∀ u∈us,∀ h:yae->yag->Prop,h (.type (if k=true then "int" else "str")) s->wpAny (model P w) A (typeOf u) h E s:=by
  intro u D h j;rcases m u D with ⟨n,i,t,rfl⟩ | ⟨n,i,t,rfl⟩
  ·subst n;exact ydt (T := "int") rfl j
  ·subst n;exact ydt (T := "str") rfl j
 refine yac (zhb (g:=λ_ => .type (if k=true then "int" else "str")) C ?_);obtain ⟨u,c,rfl⟩:∃ u c,us=u :: c:=by
  cases us with
  | nil=>exact absurd rfl B
  | cons u c=>exact ⟨u,c,rfl⟩
 have h1:(List.map (λ_=>ycn (if k=true then "int" else "str")) (u :: c)).toArray[0]? = some (.type (if k=true then "int" else "str")):=by simp
 have h2:((List.map (λ_=>ycn (if k=true then "int" else "str")) (u :: c)).toArray.all λx=>x == .type (if k=true then "int" else "str"))=true:=by
  rw [List.all_toArray,ydx,yaX];intro x _;exact beq_self_eq_true _
 rw [h1];dsimp only;rw [h2,if_pos rfl];refine yac (yah (yah ?_));rw [show (Option.any (λx=>x != ycn "tuple") (some (.type (if k=true then "int" else "str"))))=true by cases k <;> decide];exact q
end
end L2
namespace L2
open PySem PySem.Spec PyProof.Rows
section
variable {prog:yas} {w:yaS} {A:yaM} {E:yae->yag->Prop} {s:yag} {it a:Addr} {i n ep:Nat} {o:Obj} {es:Array (Int×yae)} {t:SetTable}
end
section
variable {prog:yas} {w:yaS} {A:yaM} {E:yae->yag->Prop} {s:yag} {a:Addr} {ep:Nat} {o:Obj} {es:Array (Int×yae)} {t:SetTable}
end
section
variable {P:yas} {w:yaS} {A:yaM} {E:yae->yag->Prop} {s:yag}
end
section
variable {X:Cx}
end
section
variable {prog:yas} {w:yaS} {A:yaM} {E:yae->yag->Prop} {s:yag} {a:Addr} {ep:Nat} {o:Obj} {es:Array (Int×yae)} {t:SetTable}
end
section
variable {X:Cx} {K:PySem.W.Frag}
end
theorem zfM {h:Heap} {p:Addr} {o:Obj} {items:Array yae} {c:Nat} {a:List Key} (g:h.get? p=some o) (d:o.data = .seq items c) (hc:o.cls = .type "tuple") (m:items.toList.mapM zbJ=some a):zbI h (.ref p)=some a:=by
 unfold zbI;dsimp only;rw [g];dsimp only;rw [d];dsimp only;rw [if_pos hc];exact m
theorem zhB {h:Heap} {ks:List Bool} {v:yae} {a:List Key} (e:zbI h v=some a) (k:zay ks a=true):(tupOrd h ks).keyOf v=some a:=by
 show (zbI h v).filter (zay ks)=some a;rw [e,Option.filter_some,if_pos k]
theorem zf3 {h h':Heap} {v:yae} {a:List Key} (e:zbI h v=some a) (k:∀ b o,o.cls = .type "tuple"->h.get? b=some o->h'.get? b=some o):zbI h' v=some a:=by
 obtain ⟨p,o,items,c,rfl,g,d,hc,m⟩:=zb1 e;exact zfM (k p o hc g) d hc m
theorem zc1 {h h':Heap} {ks:List Bool} {v:yae} {a:List Key} (e:(tupOrd h ks).keyOf v=some a) (k:∀ b o,o.cls = .type "tuple"->h.get? b=some o->h'.get? b=some o):(tupOrd h' ks).keyOf v=some a:=by
 obtain ⟨c,ok⟩:=filter_some e;exact zhB (zf3 c k) ok
def zbz (h:Heap) (a:Addr) (vs:List yae):Heap:=((h.update a (ycc λ_ => #[])).push (yev "tuple" vs.toArray 0)).push (yev "list" #[] 0)
theorem zgr {h:Heap} {a b:Addr} {vs:List yae} {o:Obj} (c:b≠a) (g:h.get? b=some o):(zbz h a vs).get? b=some o :=
 yad _ (yad _ ((yb8 _ _ (ybt c)).trans g))
section
variable {P:yas} {w:yaS} {A:yaM} {E:yae->yag->Prop} {s:yag}
theorem zhQ {a:Addr} {vs:List yae} {st:SortSt} {e1:Nat} {R:Fin->yag->Prop} (g:(zbz s.heap a vs).get? a=some (yev "list" #[] e1)) (sz:(arrOf st).size < 64) (d:failedOf st=none)
  (q:R (.done (.ret .none)) { s with heap:=sortedHeap s.heap a vs ((arrOf st).map (·.2)) }) :
  wpAny (model P w) A (do
   let c:=(arrOf st).map (·.2);let b:=(<- seqEpoch a) != e1
   Builtin.List.listUpdate (.ref a) λ_=>c
   if let some e:=failedOf st then rule "list.sort.comparison-raised";throw e
   if b then rule "list.sort.modified";raiseError "ValueError" "list modified during sort"
   ret .none) R E { s with heap:=zbz s.heap a vs }:=by
 have bound:((arrOf st).map (·.2)).size<=yaO+1:=by
  rw [Array.size_map];have:=yd3;omega
 refine yac (seqEpoch_at g rfl ?_);refine yac (listUpdate_at g rfl ?_ (hsz2:=bound));rw [d];simp only [bne_self_eq_false,yaR,if_false];exact yah q
theorem zhr {a:Addr} {vs:List yae} {n:Nat} {k:Bool} {ks:List Bool} {R:Fin->yag->Prop} (f:s.heap.get? a=some (yev "list" vs.toArray n)) (D:∀ v∈vs,∃ x,(tupOrd s.heap (k :: ks)).keyOf v=some x) (d:vs.length < 64)
  (h:∀ st:SortSt,(arrOf st).Perm (pairsOf vs)->SortedToK (tupOrd (zbz s.heap a vs) (k :: ks)) (arrOf st) vs.length->R (.done (.ret .none)) { s with heap:=sortedHeap s.heap a vs ((arrOf st).map (·.2)) }) :
  wpAny (model P w) A (Builtin.«list.sort» ⟨[.ref a],[]⟩) R E s:=by
 have lt:=yar f;obtain ⟨e1,y⟩:∃ c,(s.heap.update a (ycc λ_ => #[])).get? a=some (yev "list" #[] c):=⟨_,get?_update_seq f _⟩;have r:(zbz s.heap a vs).get? a=some (yev "list" #[] e1):=yad _ (yad _ y);have C:∀ b o,o.cls = .type "tuple"->s.heap.get? b=some o->(zbz s.heap a vs).get? b=some o:=λb o hc g=>zgr (λz=>by
  rw [z,f] at g;cases g;exact absurd (show ycn "list" = ycn "tuple" from hc) (by decide)) g
 have q:∀ v∈vs,∃ x,(tupOrd (zbz s.heap a vs) (k :: ks)).keyOf v=some x:=λv G=>let ⟨x,e⟩:=D v G;⟨x,zc1 e C⟩;have I:KeysOf (tupOrd (zbz s.heap a vs) (k :: ks)) (pairsOf vs):=λp u=>by
  rw [pairsOf_toList] at u;exact q _ (mem_zip_self u).2
 rw [list_sort_plain];refine yac (listItems_at f rfl (yac (listUpdate_at f rfl (yac (seqEpoch_at y rfl (yac (wpAny_newTuple (yac (wpAny_newList (ya1 ?_)))))))) ));show wpAny (model P w) A _ R E { s with heap:=zbz s.heap a vs };have J:vs.toArray.size=vs.length:=rfl;by_cases c:vs.toArray.size < 2
 ·rw [if_pos c,if_pos c];refine yac (yah ?_);dsimp only;rw [StateT.run_pure];refine yac (yah ?_);refine zhQ (st:=SortSt.mk' general' (pairsOf vs) #[] 7 none) r (by show (pairsOf vs).size < 64;rw [yeR];exact d) rfl (h _ (Array.Perm.refl _) λi j h1 h2 => ?_);obtain rfl:i=j:=by omega
  exact (tupOrd (zbz s.heap a vs) (k :: ks)).irrefl _
 ·rw [if_neg c,if_neg c];obtain ⟨v,l,rfl⟩:∃ v l,vs=v :: l:=by
   cases vs with
   | nil=>exact absurd (show (0:Nat) < 2 by decide) c
   | cons v l=>exact ⟨v,l,rfl⟩
  refine yac (kind_at (k:=k) (ks:=ks) q ?_);generalize F:zbz s.heap a (v :: l)=m at *;have run:=runs_at (P:=P) (w:=w) (A:=A) (E:=E) (κ:=tupOrd m (k :: ks)) (kd:=tuples' true) (s:={ s with heap:=m }) (a₀:=pairsOf (v :: l)) (st:=SortSt.mk' (tuples' true) ((v :: l).toArray.zip (v :: l).toArray) #[] 7 none) (Q:=λ_ t=>(arrOf t).Perm (pairsOf (v :: l))/\failedOf t=none/\SortedToK (tupOrd m (k :: ks)) (arrOf t) (pairsOf (v :: l)).size) (lts_tup (s:={ s with heap:=m }) true) I ⟨Array.Perm.refl _,rfl,rfl,rfl⟩ (by rw [yeR];omega) (by rw [yeR];exact d) λt a1 a2 a3=>⟨a1,a2,a3⟩;refine yac (ybJ run ?_ λ_ _ z=>z);rintro ⟨⟨⟩,t⟩ L ⟨rfl,p1,H,B⟩;subst F;rw [yeR] at B;exact zhQ r (by rw [p1.size_eq,yeR];exact d) H (h t p1 B)
theorem zg5 {h a:Heap} {ks:List Bool} {vs:List yae} {st:SortSt} (f:yae->List Key) (s:∀ v∈vs,(tupOrd a ks).keyOf v=some (f v)) (d:(arrOf st).Perm (pairsOf vs)) (hs:SortedToK (tupOrd a ks) (arrOf st) vs.length) :
  ((arrOf st).map (·.2)).toList.Perm vs/\((arrOf st).map (·.2)).toList.Pairwise λx y=>zaG (f y) (f x)=false:=by
 have pl:(arrOf st).toList.Perm (vs.zip vs):=by
  rw [<- pairsOf_toList];exact yfk.mp d
 have same:∀ p∈(arrOf st).toList,p.1=p.2/\p.1∈vs:=λp d=>mem_zip_self (pl.mem_iff.mp d);rw [Array.toList_map];constructor
 ·have:=pl.map Prod.snd;rw [List.map_snd_zip (yaj _)] at this;exact this
 ·have r:(arrOf st).size=vs.length:=by rw [d.size_eq,yeR]
  rw [List.pairwise_iff_getElem];intro i j hi q n;have l:i < (arrOf st).size:=by simpa using hi
  have o:j < (arrOf st).size:=by simpa using q
  have lo:=hs i j (yc6 n) (by omega);have b:∀ (m:Nat) (c:m < (arrOf st).size),KK (tupOrd a ks) (arrOf st) m=f (arrOf st)[m].2:=λm c=>by
   have g:(arrOf st)[m]∈(arrOf st).toList:=by simp
   obtain ⟨e,k⟩:=same _ g;unfold KK;rw [ybx c];show ((tupOrd a ks).keyOf (arrOf st)[m].1).getD []=_;rw [s _ k,e];rfl
  have lo:zaG (KK (tupOrd a ks) (arrOf st) j) (KK (tupOrd a ks) (arrOf st) i)=false:=lo;rw [b i l,b j o] at lo;simpa using lo
theorem zfT {l:Addr} {vs:List yae} {k:Bool} {ks:List Bool} {Q:yae->yag->Prop} (f:yae->List Key) (n:s.heap.IsList l vs.toArray) (i:∀ v∈vs,(tupOrd s.heap (k :: ks)).keyOf v=some (f v)) (c:vs.length < 64)
  (h:∀ out:Array yae,out.toList.Perm vs->(out.toList.Pairwise λx y=>zaG (f y) (f x)=false)->Q (.ref (s.heap.objs.size+1)) { s with heap:=sortedAll s.heap vs out }) :
  wpAny (model P w) A (call (.builtin "sorted") [.ref l]) Q E s:=by
 refine ydX kind_sorted plain_sorted entry_sorted (args_sorted1 _) ?_;unfold Builtin.«sorted»;refine yac (m:=checkCount "sorted" 1 1 _) (yah (yac (collect_list n (yac (wpAny_newList ?_)))));generalize d:(s.heap.push (yev "list" #[] 0)).update s.heap.objs.size (ycc (· ++ vs.toArray))=h1;have g:h1.objs.size=s.heap.objs.size+1:=by
  rw [<- d,Heap.size_update,size_push']
 have k1:∀ b o,s.heap.get? b=some o->h1.get? b=some o:=λb o e=>by
  rw [<- d];exact (yb8 _ _ (yby (yar e))).trans (yad _ e)
 have j:(h1.push (yev "list" vs.toArray 0)).get? h1.objs.size=some (yev "list" vs.toArray 0):=yan _ rfl;show wpAny _ _ _ _ _ { s with heap:=h1.push (yev "list" vs.toArray 0) };have k2:∀ v∈vs,(tupOrd (h1.push (yev "list" vs.toArray 0)) (k :: ks)).keyOf v=some (f v):=λv a=>zc1 (i v a) λb o _ e=>yad _ (k1 b o e);refine yac (ya1 (ybi slot_list_sort ⟨_,j,rfl⟩ entry_list_sort (zhr (k:=k) (ks:=ks) j (λv a=>⟨_,k2 v a⟩) c λst a1 a2=>⟨_,rfl,?_⟩) (args_list_sort _)));have k3:∀ v∈vs,(tupOrd (zbz (h1.push (yev "list" vs.toArray 0)) h1.objs.size vs) (k :: ks)).keyOf v=some (f v):=λv a=>zc1 (i v a) λb o _ e=>zgr (yay (by rw [g];exact ybS (yar e))) (yad _ (k1 b o e));obtain ⟨p,q⟩:=zg5 (h:=s.heap) f k3 a1 a2;have fin:=h _ p q;refine yah ⟨_,rfl,?_⟩;rw [<- g] at fin;unfold sortedAll at fin;rw [d] at fin;rw [g] at fin ⊢;exact fin
end
theorem perm_map {α g:Type} (f:α->g):∀ {l m:List g},l.Perm m->∀ {r:List α},r.map f=m->∃ c:List α,c.Perm r/\c.map f=l:=by
 intro l m p
 induction p with
 | nil =>
  intro r h;exact ⟨r,.refl _,h⟩
 | cons x _ n =>
  intro r h;cases r with
  | nil=>cases h
  | cons y r =>
   rw [yaw] at h;obtain ⟨h1,h2⟩:=yeq h;obtain ⟨c,p1,o⟩:=n h2;exact ⟨y :: c,p1.cons y,by rw [yaw,h1,o]⟩
 | swap x y l =>
  intro r h;cases r with
  | nil=>cases h
  | cons a r =>
   cases r with
   | nil=>cases h
   | cons b r =>
    rw [yaw,yaw] at h;obtain ⟨h1,h2⟩:=yeq h;obtain ⟨s,i⟩:=yeq h2;exact ⟨b :: a :: r,.swap _ _ _,by rw [yaw,yaw,h1,s,i]⟩
 | trans _ _ d e =>
  intro r h;obtain ⟨t,a1,a2⟩:=e h;obtain ⟨j,k,q⟩:=d a2;exact ⟨j,k.trans a1,q⟩
theorem keyOfV_of {k:Key} {v:yae} (r:RelV (kV k) v):zbJ v=some k:=by
 cases k with
 | inl i =>
  obtain ⟨t,rfl⟩:=r;rfl
 | inr x =>
  obtain ⟨t,rfl⟩:=r;rfl
theorem keys_of:∀ {ks:List Key} {us:List yae},Vals (ks.map kV) us->us.mapM zbJ=some ks
 | [],_,r=>by
  cases r;rfl
 | k :: ks,_,r=>by
  cases r with
  | cons e r =>
   rw [List.mapM_cons,keyOfV_of e,keys_of r];rfl
theorem zec:∀ {ps:List Addr} {us:List yae},Vals (ps.map V.ref) us->us=ps.map yaq
 | [],_,r=>by
  cases r;rfl
 | p :: ps,_,r=>by
  cases r with
  | cons e r =>
   cases e;rw [yaw,<- zec r]
theorem zhZ:∀ (ps:List Addr),Vals (ps.map V.ref) (ps.map yaq)
 | [] => .nil
 | p :: ps => .cons rfl (zhZ ps)
section
variable {X:Cx} {K:PySem.W.Frag}
theorem zdW (R:X.K=K):CallR X (.builtin "sorted") (λxs H Q=>∃ (p:Addr) (rows:List (Addr×List Key)) (k:Bool) (ks:List Bool),xs = [.ref p]/\SqL K H p (rows.map λr=>V.ref r.1)/\(∀ r∈rows,SqT K H r.1 (r.2.map kV)/\zay (k :: ks) r.2=true)/\rows.length < 64/\∀ (l:Addr) (a:List (Addr×List Key)),H l=none->a.Perm rows->(a.Pairwise λx y=>zaG y.2 x.2=false)->Q (.ref l) (upd H l (.lst (a.map λr=>V.ref r.1)))):=by
 subst R;intro pins s S H xs us Q I r h;obtain ⟨p,rows,k,ks,rfl,N,B,j,q⟩:=h;obtain ⟨u,rfl,L⟩:=vals1 r;cases L;obtain ⟨i,t,pl,_⟩:=I.list N;have e1:i=rows.map λr=>yaq r.1:=by
  have:=zec (ps:=rows.map (·.1)) (us:=i) (by rw [yaU];exact t);rw [this,yaU];rfl
 subst e1;have m:∀ r∈rows,zbI s.heap (.ref r.1)=some r.2:=λr f=>by
  obtain ⟨i,t,⟨o,g,hc,c,d⟩,_⟩:=I.tuple (B r f).1;exact zfM g d hc (keys_of t)
 refine zfT (k:=k) (ks:=ks) (λv=>(zbI s.heap v).getD []) pl.isList (λv F => ?_) (by rw [yab];exact j) λout M A => ?_
 ·obtain ⟨r,f,rfl⟩:=yao.mp F;have:=m r f;rw [this];exact zhB this (B r f).2
 ·obtain ⟨a,p1,C⟩:=perm_map (λr:Addr×List Key=>yaq r.1) M rfl;obtain ⟨e,E⟩:=sortedAll_at s.heap (rows.map λr=>yaq r.1) out;have n:a.Pairwise λx y=>zaG y.2 x.2=false:=by
   rw [<- C,ydL] at A;refine A.imp_of_mem λ{x y} G O z => ?_;have D:=m x (p1.mem_iff.mp G);have J:=m y (p1.mem_iff.mp O);rw [D,J] at z;exact z
  have U:=p1.length_eq;refine ⟨.ref (s.heap.objs.size+1),_,I.laid (t':=s.toks) (o := .lst (a.map λr=>V.ref r.1)) (λb ob z=>sortedAll_old z) (yda _) ?_,rfl,q _ a (I.hok.fresh (yda _)) p1 n⟩;refine ⟨by rw [yab];exact zah (by omega),out.toList,e,?_,E⟩;rw [<- C];have:=zhZ (a.map (·.1));rw [yaU,yaU] at this;exact this
end
theorem eqV_kV (x y:Key):eqV (kV x) (kV y)=true↔x=y:=by
 cases x <;> cases y
 ·show (_ == _)=true↔_;rw [beq_iff_eq];exact ⟨λh=>by rw [h],λh=>by cases h;rfl⟩
 ·exact ⟨(λh=>nomatch h),(λh=>nomatch h)⟩
 ·exact ⟨(λh=>nomatch h),(λh=>nomatch h)⟩
 ·show (_ == _)=true↔_;rw [beq_iff_eq];exact ⟨λh=>by rw [h],λh=>by cases h;rfl⟩
theorem flat_kV (ks:List Key):(ks.map kV).all flatV=true:=by
 rw [ydx,yaX];intro k _;cases k <;> rfl
theorem zdm (b c:List Key):((ycE (min b.length c.length)).all (λj=>eqV ((b.map kV).getD j .non) ((c.map kV).getD j .non))&&(b.length == c.length))=decide (b=c):=by
 rw [ycg,ya9,yaX,beq_iff_eq,decide_eq_true_eq];have a:∀ (l:List Key) (j:Nat) (h:j < l.length),(l.map kV).getD j .non=kV l[j]:=λl j h=>by
  rw [yaT,yaf,yaa h];rfl
 constructor
 ·rintro ⟨h,e⟩;refine List.ext_getElem e λj h1 h2 => ?_;have:=h j (ydn.mpr (by omega));rw [a b j h1,a c j h2] at this;exact (eqV_kV _ _).mp this
 ·rintro rfl;refine ⟨λj d => ?_,rfl⟩;have d:=ydn.mp d;rw [a b j (by omega)];exact (eqV_kV _ _).mpr rfl
section
variable {X:Cx} {pins:List (Addr×Obj)} {σ:St} {H:Hp} {s:yag}
theorem tup_eqK {A:yaM} (I:Inv X pins σ H s) (k:A.units < cLine) {a b:Addr} {d e:List Key} (h:SqT X.K H a (d.map kV)) (i:SqT X.K H b (e.map kV)):SeqAt.EqAt A s (.ref a) (.ref b) (decide (d=e)):=by
 by_cases c:a=b
 ·subst c;rw [decide_eq_true (kVs_inj (I.tuple_inj h i))];exact ydu _
 ·obtain ⟨us,g,j,_⟩:=I.tuple h;obtain ⟨vs,f,l,_⟩:=I.tuple i;have it:=zcE (A:=A.in1) (s:=s) g f (flat_kV _) (flat_kV _);have:=SeqAt.RcAt.tuples (A:=A) (show s.heap.IsTuple a us.toArray from j) (show s.heap.IsTuple b vs.toArray from l) k it;have l1:us.toArray.size=d.length:=by
   have:=g.length;simp at *;omega
  have l2:vs.toArray.size=e.length:=by
   have:=f.length;simp at *;omega
  rw [l1,l2,zdm] at this;exact SeqAt.EqAt.of_refs c this
end
section
variable {X:Cx} {K:PySem.W.Frag}
def rNeRows (K:PySem.W.Frag):R2:=λx y H Q=>∃ (a b:Addr) (ra rb:List (Addr×List Key)),x = .ref a/\y = .ref b/\SqL K H a (ra.map λr=>V.ref r.1)/\SqL K H b (rb.map λr=>V.ref r.1)/\(∀ r∈ra,SqT K H r.1 (r.2.map kV))/\(∀ r∈rb,SqT K H r.1 (r.2.map kV))/\ra.length=rb.length/\Q (.bl (decide (ra.map (·.2)≠rb.map (·.2)))) H
theorem zgT (E:X.K=K) (m:X.A.units+1 < cLine):OpR X (yba .NotEq) (rNeRows K):=by
 subst E;intro pins s G H x y v u Q I C t h;obtain ⟨a,b,c,d,rfl,rfl,D,p,o,n,g,q⟩:=h;obtain rfl:v=yaq a:=C;obtain rfl:u=yaq b:=t;obtain ⟨us,l,B,_⟩:=I.list D;obtain ⟨vs,k,F,_⟩:=I.list p;have e1:us=c.map λr=>yaq r.1:=by
  have:=zec (ps:=c.map (·.1)) (us:=us) (by rw [yaU];exact l);rw [this,yaU];rfl
 have e2:vs=d.map λr=>yaq r.1:=by
  have:=zec (ps:=d.map (·.1)) (us:=vs) (by rw [yaU];exact k);rw [this,yaU];rfl
 subst e1 e2;refine yfs (e:=λj=>decide (((c.map (·.2))[j]?)=(d.map (·.2))[j]?)) B.isList F.isList (by simp [g]) (by omega) (λj h1 h2 => ?_) X.prog X.w _ _ ?_
 ·have f:j < c.length:=by simpa using h1
  have i:j < d.length:=by simpa using h2
  have:=tup_eqK (A:=X.A.in1) I m (o _ (yam f)) (n _ (yam i));have e:decide ((c.map (·.2))[j]? = (d.map (·.2))[j]?)=decide (c[j].2=d[j].2):=by
   apply decide_eq_decide.mpr;rw [yaf,yaf,yaa f,yaa i];exact ⟨λh=>yaz h,λh=>congrArg some h⟩
  rw [e];simpa using this
 ·refine ⟨.bl _,H,I,rfl,?_⟩;have e:(!(ycE (c.map λr=>yaq r.1).toArray.size).all λj=>decide ((c.map (·.2))[j]? = (d.map (·.2))[j]?))=decide (c.map (·.2)≠d.map (·.2)):=by
   rw [ycg,Bool.not_eq_true',decide_eq_true_eq,<- Bool.not_eq_true,yaX];refine not_congr ⟨λh => ?_,λh j _=>by rw [h];exact decide_eq_true rfl⟩;refine List.ext_getElem? λj => ?_;rcases yb6 j c.length with z | z
   ·exact of_decide_eq_true (h j (by simpa using z))
   ·rw [ybV (by simpa using z),ybV (by rw [yab,<- g];exact z)]
  rw [e];exact q
end
theorem sq1 {a b:TS} {D:Ends} {c:St} {H:Hp} (f:∀ R:TS,(∀ {D:Ends} {c:St} {H:Hp},b D c H->R D c H)->tSeq a R D c H):tSeq a b D c H:=f b λh=>h
theorem ixL {K:PySem.W.Frag} {p:Addr} {xs:List V} {i:Int} {v:V} {H:Hp} {Q:VK} (h:SqL K H p xs) (e:atI xs i=some v) (q:Q v H):rIxL K (.ref p) (.int i) H Q:=⟨p,xs,i,v,rfl,rfl,h,e,q⟩
theorem ixT {K:PySem.W.Frag} {p:Addr} {xs:List V} {i:Int} {v:V} {H:Hp} {Q:VK} (h:SqT K H p xs) (e:atI xs i=some v) (q:Q v H):rIxT K (.ref p) (.int i) H Q:=⟨p,xs,i,v,rfl,rfl,h,e,q⟩
theorem ixLc {K:PySem.W.Frag} {p:Addr} {xs:List V} {i:Int} {v:V} {b:St} {H:Hp} {Q:VK} (h:SqL K H p xs) (e:atI xs i=some v) (q:Q v H):tC (.int i) b H λy a=>rIxL K (.ref p) y a Q:=⟨p,xs,i,v,rfl,rfl,h,e,q⟩
theorem ixTc {K:PySem.W.Frag} {p:Addr} {xs:List V} {i:Int} {v:V} {b:St} {H:Hp} {Q:VK} (h:SqT K H p xs) (e:atI xs i=some v) (q:Q v H):tC (.int i) b H λy a=>rIxT K (.ref p) y a Q:=⟨p,xs,i,v,rfl,rfl,h,e,q⟩
theorem ea {α:Sort _} {A B:α->Prop} {w:α} (a:A w) (b:B w):∃ v,A v/\B v:=⟨w,a,b⟩
structure Gf (K:PySem.W.Frag) (x:Str) (st:Stmt) (f:Addr):Prop where
 a:ybd K yaV x=some (some (.ref f))
 d:∃ fd,Fun K x x st f fd
structure Mf (K:PySem.W.Frag) (C:Addr) (x qual:Str) (st:Stmt) (f:Addr):Prop where
 a:ya5 K (.ref C) x=some (some (.ref f))
 i:yeN K (.ref f)=true
 d:∃ fd,Fun K x qual st f fd
theorem b0 {B:List yae->Prop} (h:B []) (us:List yae) (a:us.length=0):B us:=(yeY a) ▸ h
theorem bs {B:List yae->Prop} {n:Nat} (h:∀ a us,us.length=n->B (a :: us)) (us:List yae) (b:us.length=n+1):B us:=by
 obtain ⟨a,l,rfl⟩:=yct b;exact h a l (yb5 b)
section
variable {K:PySem.W.Frag} {h:Heap} {mg:Str->Option yae} {x qual:Str} {st:Stmt} {f C:Addr} {ps:List Str}
noncomputable def Gf.fx (g:Gf K x st f) (X:K.In h) (G:h.Ns yaV mg) (hb:∀ (kV doc pm:yae) (an:Option Addr) (cdv ct:yae) (us:List yae),us.length=ps.length->bindArgs (ycw x x (zch st) (zbF st) (zaj st) .none kV doc pm an cdv ct) ⟨us,[]⟩=pure (ps.zip us)):Fx K mg x st ps :=
 ⟨f,g.d.choose,g.d.choose_spec,g.d.choose_spec.binds hb,yde X G g.a⟩
noncomputable def Mf.mx (g:Mf K C x qual st f) (hb:∀ (kV doc pm:yae) (an:Option Addr) (cdv ct:yae) (us:List yae),us.length=ps.length->bindArgs (ycw x qual (zch st) (zbF st) (zaj st) .none kV doc pm an cdv ct) ⟨us,[]⟩=pure (ps.zip us)):Mx K C x qual st ps :=
 ⟨f,g.d.choose,g.d.choose_spec,g.d.choose_spec.binds hb,⟨g.a,g.i,g.d.choose_spec.kp⟩⟩
end
end L2
namespace L2
open PySem PySem.Spec PyProof.Rows
section
variable {X:Cx} {pins:List (Addr×Obj)} {σ:St} {H:Hp} {s:yag} {A:yaM} {E:yae->yag->Prop}
theorem d_setdef {Q:yae->yag->Prop} {a:Addr} {kvs:List (Key×V)} {k:Key} {i:V} {u r:yae} (I:Inv X pins σ H s) (e:H a=some (.dK kvs)) (p:RelV (kV k) u) (t:RelV i r) (l:kvs.length < yaO)
  (h1:∀ v h g,valV kvs k=some v->Inv X pins σ H g->RelV v h->Q h g) (h2:∀ g,valV kvs k=none->Inv X pins σ (upd H a (.dK (putK kvs k i))) g->Q r g) :
  wpAny (model X.prog X.w) A (call (.builtin "dict.setdefault") [.ref a,u,r]) Q E s:=by
 obtain ⟨z,hd,vs,c,dd⟩:=dk_of I.hok e;have hz:vs.length<=yaO:=by rw [<- c.length];exact z
 have n:(putK kvs k i).length<=yaO:=by have:=zcl kvs k i;omega
 have b:=c.val k;refine yc7 ye3 dd.typeIs PySem.F.entry_dict_setdefault (PySem.F.args_dict_setdefault_3 _ _ _) (PySem.kt_meets_setdefault (zan X.prog X.w) a (kV_is p) hd r) ⟨vs,dd,hz,λh hw => ?_,λo h' f hs => ?_⟩
 ·rw [hw] at b;cases d:valV kvs k with
  | none=>rw [d] at b;exact (show False from b).elim
  | some v =>
   rw [d] at b;exact h1 v h _ d (I.tok _) b
 ·rw [o] at b;cases d:valV kvs k with
  | some v=>rw [d] at b;exact (show False from b).elim
  | none =>
   have m:∃ q,h'.get? a=some q:=by
    obtain ⟨q,_,_,j,_⟩:=f;exact ⟨q,j⟩
   exact h2 _ d (zdt I (by rw [e];exact ybA) hs m (zfC n hd (c.put k t) f))
end
def tSetD (td ty tx:TE):TE:=λσ H Q=>td σ H λx H1=>∃ a,x = .ref a/\IsD H1 a/\ty σ H1 λy H2=>tx σ H2 λz H3=>∃ kvs k,y=kV k/\H3 a=some (.dK kvs)/\kvs.length < yaO/\(∀ v,valV kvs k=some v->Q v H3)/\(valV kvs k=none->Q z (upd H3 a (.dK (putK kvs k z))))
theorem pe_dsetd {X:Cx} {o e f:Expr} {b c:Pos} {A r t:TE} (G:PE X o A) (N:PE X e r) (L:PE X f t) (m:M2 X o "setdefault" b e f c):PE X (.Call (.Attribute o "setdefault" b) [e,f] [] c) (tSetD A r t):=by
 intro pins s j H Q I h;refine yeF m.base m.few m.line yb2 ye3 PySem.F.type_dict_setdefault (thn (G pins s j H _ I h) λu R n => ?_);obtain ⟨x,S,C,W,a,ex,d,V⟩:=n;subst ex;obtain rfl:u=yaq a:=W;obtain ⟨t1,t2,_⟩:=zgs C d;refine ⟨t1,t2,?_⟩;rw [m.trees];refine ybK rfl (ycW (ybG (thn (N pins R j S _ C V) λiv Y p => ?_)));obtain ⟨y,M,J,U,q2⟩:=p;refine ybG (thn (L pins Y j M _ J q2) λfv s3 q=>ycY ?_);obtain ⟨z,E,O,B,kvs,k,ey,ea,l,Z,D⟩:=q;subst ey;exact d_setdef O ea U B l (λv w' s' i g rv=>⟨v,E,g,rv,Z v i⟩) (λs' i g=>⟨z,_,g,B,D i⟩)
section
variable {X:Cx} {pins:List (Addr×Obj)} {σ:St} {H:Hp} {s:yag}
theorem Inv.freeze {a:Addr} {kvs:List (Key×V)} {ob:Obj} (I:Inv X pins σ H s) (e:H a=some (.dK kvs)) (c:s.heap.get? a=some ob):Inv X pins σ (upd H a (.frz ob (.dK kvs))) s:=by
 have ok:=I.hok _ _ e;refine I.write (h':=s.heap) (t':=s.toks) (x:=a) (e:=a) (by rw [e];exact trivial) (.inl rfl) (λb u _ q=>q) ⟨_,c⟩ ⟨c,?_⟩;exact ok.stay (λb u _ q=>q) (λb q=>by rw [zaf (ne_of q e (λz=>nomatch z))];exact q) (λb xs q=>by rw [zaf (ne_of q e (λz=>nomatch z))];exact q)
def NoF (H₀:Hp) (a:Addr):Prop:=∀ o u,H₀ a≠some (.frz o u)
theorem Inv.nof {a:Addr} {kvs:List (Key×V)} (I:Inv X pins σ H s) (e:H a=some (.dK kvs)):NoF X.H₀ a:=λo u q=>by
 have:=I.base.frzs _ _ _ q;rw [e] at this;cases this
theorem Inv.thaw {a:Addr} {kvs:List (Key×V)} {ob:Obj} (I:Inv X pins σ H s) (n:NoF X.H₀ a) (e:H a=some (.frz ob (.dK kvs))):Inv X pins σ (upd H a (.dK kvs)) s:=by
 obtain ⟨j,ok⟩:=(show s.heap.get? a=some ob/\ObjOk X.prog X.w H s.heap a (.dK kvs) from I.hok _ _ e);have f:∀ {b:Addr},H b=none->b≠a:=λh z=>by rw [z,e] at h;cases h
 have nx:∀ {b:Addr} {o:HO},H b=some o->(∀ ob u,o ≠ .frz ob u)->b≠a:=λh k z=>by rw [z,e] at h;cases h;exact k _ _ rfl
 have st:∀ {b:Addr} {o:HO},b≠a->ObjOk X.prog X.w H s.heap b o->ObjOk X.prog X.w (upd H a (.dK kvs)) s.heap b o:=λ{b o} _ k=>k.stay (λ_ _ _ q=>q) (λc q=>by rw [zaf (nx q λ_ _ z=>nomatch z)];exact q) (λc xs q=>by rw [zaf (nx q λ_ _ z=>nomatch z)];exact q);refine ⟨I.ok,I.os,I.bare,⟨I.base.keep,I.base.slot,λb o q k g => ?_,I.base.there,λb xs q => ?_,λb o u q => ?_,λb ps q => ?_⟩,I.loc,I.cell,?_,λx c q => ?_,λp i => ?_,λb o q => ?_,I.len⟩
 ·have:=I.base.free b o q k g;rw [zaf (f this)];exact this
 ·have:=I.base.tups b xs q;rw [zaf (nx this λ_ _ z=>nomatch z)];exact this
 ·have z:b≠a:=λz=>n o u (z ▸ q);rw [zaf z];exact I.base.frzs b o u q
 ·obtain ⟨d,z⟩:=I.base.tbls b ps q;exact ⟨d,by rw [zaf (nx z λ_ _ z=>nomatch z)];exact z⟩
 ·rw [zaf (f I.free)];exact I.free
 ·rw [zaf (f (I.freeC x c q))];exact I.freeC x c q
 ·obtain ⟨a1,a2,a3⟩:=I.pin p i;exact ⟨a1,by rw [zaf (f a2)];exact a2,a3⟩
 ·by_cases z:b=a
  ·subst z;rw [zab] at q;cases q;exact ok.stay (λ_ _ _ q=>q) (λc q=>by rw [zaf (nx q λ_ _ z=>nomatch z)];exact q) (λc xs q=>by rw [zaf (nx q λ_ _ z=>nomatch z)];exact q)
  ·rw [zaf z] at q;exact st z (I.hok _ _ q)
end
def Itd (a:Addr) (ob:Obj) (kvs:List (Key×V)):It:=⟨λi H=>H a=some (.frz ob (.dK kvs))/\i < kvs.length,λi H x H'=>H'=H/\∃ p,kvs[i]? = some p/\x=kV p.1,λi H=>H a=some (.frz ob (.dK kvs))/\kvs.length<=i⟩
theorem is_kV {k:Key} {u:yae} (h:keyIs k u=true):RelV (kV k) u:=by
 rcases zaB h with ⟨i,t,rfl,rfl⟩ | ⟨x,t,rfl,rfl⟩
 ·exact ⟨t,rfl⟩
 ·exact ⟨t,rfl⟩
theorem frz_at {P:yas} {w:yaS} {H:Hp} {h:Heap} {a:Addr} {ob:Obj} {kvs:List (Key×V)} {es:Array DictEntry} {ep:Nat} (b:ob.data = .dict es ep) (x:ObjOk P w H h a (.frz ob (.dK kvs))):∃ vs,KV kvs vs/\h.DictAt (zan P w) a vs ep:=by
 obtain ⟨f,z,hd,vs,e,k,i,j,g,c,d,r⟩:=x;rw [f] at g;cases g;rw [b] at d;cases d;exact ⟨vs,e,ob,es,f,c,b,r⟩
theorem turn_dict {P:yas} {w:yaS} {K:PySem.W.Frag} {D:Expr} (a it:Addr) {ob:Obj} {kvs:List (Key×V)} {es:Array DictEntry} {ep:Nat} (g:ob.data = .dict es ep):Turn P w K D (Itd a ob kvs) [it] it (λi h=>h.IsKeyIter it a i kvs.length ep) where
 mem:=by simp
 obj:=λi h st b j=>by
  have e:b=it:=by simpa using j
  subst e;obtain ⟨o,e,c,d⟩:=st;exact ⟨o,e,λv z=>by rw [d] at z;cases z⟩
 keep:=λi h h' st k=>st.at λo e=>k it (by simp) o e
 item:=by
  intro X r hw A hc i pins s C H E I n st u;subst r hw A;obtain ⟨e,lt⟩:=u;obtain ⟨vs,f,dd⟩:=frz_at g (I.hok _ _ e);obtain ⟨B,q,O,p,t,y⟩:=n it (by simp);have m:=f.length;have G:=Paired.at f i lt (by omega);rw [m] at st;refine wpAny_pyNext_dict_item (knd:=zan X.prog X.w) (k:=vs[i].1) (v:=vs[i].2) st dd (yaa (by omega)) λkey h' F l M => ?_;have Q:Inv X pins C H { s with heap:=h' }:=I.turned (t':=s.toks) (λb o j e=>(M.2 b j).trans e) B q p t y;obtain ⟨o,L,c,d⟩:=id l;rw [<- m] at l;have N:RelV (kV kvs[i].1) key:=by rw [G.1];exact is_kV F
  exact ⟨key,rfl,go_of (s:={ s with heap:=h' }) L c d (by decide) ⟨_,H,Q,N,⟨rfl,_,yaa lt,rfl⟩,l,λb j=>(n b j).1⟩⟩
 done:=by
  intro X r hw A hc i pins s C H E I n st u;subst r hw A;obtain ⟨e,lt⟩:=u;obtain ⟨vs,f,dd⟩:=frz_at g (I.hok _ _ e);obtain ⟨B,q,O,p,t,y⟩:=n it (by simp);have m:=f.length;rw [m] at st;exact wpAny_pyNext_dict_end (knd:=zan X.prog X.w) (I.ok.hd hc) st dd (ybV (by omega)) λh' J=>⟨rfl,I.turned (t':=s.toks) (λb o j e=>J b o j e) B q p t y⟩
 self:=λ_ _ _ _ _ st h=>wpAny_pyIter_keyiter st h
def iDict (H₀:Hp) (tl:TE):TI:=λσ H R=>tl σ H λx H1=>∃ a kvs,x = .ref a/\H1 a=some (.dK kvs)/\∀ ob,NoF H₀ a->R (Itd a ob kvs) (upd H1 a (.frz ob (.dK kvs)))
theorem zeK {X:Cx} {t l:Expr} {p:TE} (A:PE X l p):PI X t l (iDict X.H₀ p):=by
 intro pins s C H R I h;refine thn (A pins s C H _ I h) λv f i => ?_;obtain ⟨x,D,k,u,a,kvs,ex,e,q⟩:=i;subst ex;obtain rfl:v=yaq a:=u;have n:=k.nof e;obtain ⟨z,hd,vs,j,ob,es,ep,m,c,d,r⟩:=dk_of k.hok e;refine wpAny_pyIter_dict (knd:=zan X.prog X.w) hd ⟨ob,es,m,c,d,r⟩ ?_;have g:=k.freeze e m;refine ⟨f.heap.objs.size,[f.heap.objs.size],_,_,_,rfl,g.kept (t':=f.toks) λb o e=>yad _ e,turn_dict a _ d,⟨_,yan _ rfl,rfl,by rw [j.length];rfl⟩,λb B => ?_,q ob n⟩;have y:b=f.heap.objs.size:=by simpa using B
 subst y;exact g.fpOk (yaj _) (g.hok.fresh (yaj _))
def tForD (H₀:Hp) (wi:TI) (g:TG) (tb:TS):TS:=λD σ H=>tFor wi g tb { D with nx:=λσ' H'=>∃ a ob kvs,NoF H₀ a/\H' a=some (.frz ob (.dK kvs))/\D.nx σ' (upd H' a (.dK kvs)) } σ H
theorem zeo {X:Cx} {i b:Expr} {c:List Stmt} {k:TI} {g:TG} {j:TS} {pos:Pos} (r:PassesOwn (model X.prog X.w) X.A X.env X.xe) (hc:X.calm=true) (hi:PI X i b k) (p:PG X i g) (m:PSs X c j)
  (hs:∀ x,yey b X.env x=pure x:=by intro _;rfl):PS X (.For i b c [] pos) (tForD X.H₀ k g j):=by
 intro pins s o H D I h;refine ybJ (zaV r hc hi p m hs pins s o H _ I h) (λf t q => ?_) (λ_ _ z=>z);cases f with
 | next =>
  obtain ⟨d,H',l,a,ob,kvs,n,e,q⟩:=q;exact ⟨d,_,l.thaw n e,q⟩
 | brk=>exact q
 | cont=>exact q
 | ret u=>exact q
theorem zc7 {a:Addr} {ob:Obj} {kvs:List (Key×V)} {g:TG} {h:TS} {D:Ends} {b:St} {H:Hp} (Pv:Nat->St->Hp->Prop) (l:Pv 0 b H) (n:∀ i b H,i<=kvs.length->Pv i b H->H a=some (.frz ob (.dK kvs)))
  (hs:∀ i p b H,kvs[i]? = some p->Pv i b H->g (kV p.1) b H λc f=>h { D with nx:=Pv (i+1),ct:=Pv (i+1),bk:=D.nx } c f) (hd:∀ b H,Pv kvs.length b H->D.nx b H) :
  ∃ W:Nat->Nat->St->Hp->Prop,(∃ m,W 0 m b H)/\∀ i m b H,W i m b H ->
   ((Itd a ob kvs).stop i H/\D.nx b H)\/((Itd a ob kvs).go i H/\∃ N:St->Hp->Prop,(∀ d H',N d H'->∃ j,j < m/\W (i+1) j d H')/\∀ x H',(Itd a ob kvs).yld i H x H'->g x b H' λc f=>h { D with nx:=N,ct:=N,bk:=D.nx } c f):=by
 refine ⟨λi m b H=>m=kvs.length - i/\i<=kvs.length/\Pv i b H,⟨kvs.length,by simp,yaW _,l⟩,?_⟩;rintro i m b H ⟨rfl,hi,p⟩;have q:=n i b H hi p;by_cases lt:i < kvs.length
 ·refine .inr ⟨⟨q,lt⟩,Pv (i+1),λd H' k=>⟨kvs.length - (i+1),by omega,rfl,lt,k⟩,?_⟩;rintro x H' ⟨rfl,o,e,rfl⟩;exact hs i o b H' e p
 ·obtain rfl:i=kvs.length:=by omega
  exact .inl ⟨⟨q,yaj _⟩,hd b H p⟩
def tClearD (td:TE):TE:=λσ H Q=>td σ H λx H1=>∃ a kvs,x = .ref a/\H1 a=some (.dK kvs)/\Q .non (upd H1 a (.dK []))
theorem pe_dclear {X:Cx} {o:Expr} {b c:Pos} {i:TE} (k:PE X o i) (f:ycv o "clear" X.env (eval o X.env)=eval o X.env:=by rfl) (d:(b.endLine == c.line)=true:=by rfl):PE X (.Call (.Attribute o "clear" b) [] [] c) (tClearD i):=by
 intro pins s p H Q I h;refine wpAny_Call_method0_late f d (thn (k pins s p H _ I h) λu r g => ?_);obtain ⟨x,t,j,n,a,kvs,ex,e,m⟩:=g;subst ex;obtain rfl:u=yaq a:=n;obtain ⟨q,t2,_⟩:=zgs j (.inl ⟨kvs,.inl e⟩);exact ⟨_,_,yb2,PySem.F.slot_dict_clear,PySem.F.type_dict_clear,q,t2,ybK rfl (PySem.evalArgs_none (d_clear j e λv l=>⟨.non,_,l,rfl,m⟩))⟩
section
variable {X:Cx} {K:PySem.W.Frag}
def rNeLI (K:PySem.W.Frag):R2:=λx y H Q=>∃ a b xs,x = .ref a/\y = .ref b/\SqL K H a xs/\SqL K H b xs/\(∀ v∈xs,SameV v)/\Q (.bl false) H
theorem op_neLI (E:X.K=K) (n:X.A.units < cLine):OpR X (yba .NotEq) (rNeLI K):=by
 subst E;rintro pins s F H x y v u Q I t r ⟨a,b,xs,rfl,rfl,o,D,l,q⟩;cases t;cases r;obtain ⟨us,i,p1,G⟩:=I.list o;obtain ⟨vs,h,C,J⟩:=I.list D;have l1:=i.length;have l2:=h.length;have it:∀ (d:yaM) j (h1:j < us.toArray.size) (h2:j < vs.toArray.size),SeqAt.EqAt d s us.toArray[j] vs.toArray[j] true:=λd j h1 h2=>by
  have m:j < us.length:=by simpa using h1
  have p:j < vs.length:=by simpa using h2
  have f:=Paired.at i j (by omega) m;have g:=Paired.at h j (by omega) p;have ok:=l xs[j] (yam (by omega));have e:SeqAt.EqAt d s us[j] vs[j] true:=by
   generalize xs[j]=z at f g ok;rcases ok with ⟨c,rfl⟩ | ⟨k,B⟩
   ·have e1:us[j]=yaq c:=f;have e2:vs[j]=yaq c:=g;rw [e1,e2];exact ydu _
   ·have z:=zdo (A:=d) (s:=s) f g k k;rw [B] at z;exact z
  simpa using e
 refine yfs (e:=λ_=>true) p1.isList C.isList (by simp;omega) n (it _) X.prog X.w _ _ ?_;rw [zh8];exact ⟨.bl false,H,I,rfl,q⟩
end
section
variable {P:yas} {w:yaS} {A:yaM} {E:yae->yag->Prop} {s:yag} {κ:Type} [DecidableEq κ] {knd:PySem.KeyKind P w κ} {a b:Addr}
theorem zgz {nm:String} {kvs c:List (κ×yae)} {Q:Bool->yag->Prop} (C:(a == ybz)=false) (y:(b == ybz)=false) (u:s.heap.DictOf knd a kvs) (B:s.heap.DictOf knd b c) (t:kvs.length≠c.length) (h:Q false s):wpAny (model P w) A (ydq nm a b) Q E s:=by
 obtain ⟨F,k,n,j,q,i,m,e,p⟩:=u;obtain ⟨D,l,v,g,r,d,z,f,o⟩:=B;have l1:k.size=kvs.length:=by rw [<- e.length];simp
 have l2:l.size=c.length:=by rw [<- f.length];simp
 unfold ydq ydB;rw [if_neg (by rw [C];exact yaB)];refine yac (yah ?_);rw [if_neg (by rw [y];exact yaB)];refine yac (yah ?_);refine yac (ybC j i ?_);refine yac (ybC g d ?_);rw [if_pos (by rw [l1,l2];simpa using t)];exact yac (yed (yah h))
theorem ne_less {kvs c:List (κ×yae)} {Q:yae->yag->Prop} (g:A.units < cLine) (f:(a == ybz)=false) (j:(b == ybz)=false) (d:s.heap.DictOf knd a kvs) (e:s.heap.DictOf knd b c) (i:kvs.length≠c.length) (h:Q (.bool true) s):wpAny (model P w) A (yba .NotEq (.ref a) (.ref b)) Q E s:=by
 show wpAny _ _ (richCompare .NotEq (.ref a) (.ref b)) _ _ _;refine wpAny_richCompare_same_room d.typeIs e.typeIs yfx (ybi yfx d.typeIs F.entry_dict_ne ?_ (F.args_dict_ne_2 _ _)) g;show wpAny _ _ (ycU "__ne__" ⟨[.ref a,.ref b],[]⟩ >>= _) _ _ _;refine yac ?_;unfold ycU;refine yac (ydA d.typeIs ?_);show wpAny _ _ (pure (yaq a,yaq b)) _ _ _;refine yah ?_;refine yac (ydl (T := "dict") (b:=true) e.typeIs (by rw [yeM];kernel_rfl) ?_);refine zgR (by simp) ?_;refine yac (yah ?_);refine yac (yah ?_);refine yac (zgz f j d e i ?_);exact yah ⟨_,rfl,(λx=>nomatch x),h⟩
end
section
variable {X:Cx} {K:PySem.W.Frag}
theorem op_neDE (g:X.A.units < cLine):OpR X (yba .NotEq) (λx y H Q=>∃ (a b:Addr) (kvs:List (Key×V)),x = .ref a/\y = .ref b/\Rd H a (.dK kvs)/\H b=some (.dK [])/\Q (.bl (!kvs.isEmpty)) H):=by
 rintro pins s n H x y v u Q I l k ⟨a,b,kvs,rfl,rfl,h1,h2,q⟩;obtain rfl:v=yaq a:=l;obtain rfl:u=yaq b:=k;obtain ⟨_,lo1,vs,d,h⟩:=h1.ok I.hok;obtain ⟨_,c,ws,f,j⟩:=I.hok b _ h2;have l1:=d.length;have l2:=f.length;cases kvs with
 | nil =>
  refine ne_same g lo1 c h j ((kv_keys d).trans (kv_keys f).symm) (λm i p q e1 e2 => ?_) ⟨.bl false,H,I,rfl,q⟩;have:=(yav.mp e1).1;simp at l1;simp [<- l1] at this
 | cons p r =>
  refine ne_less g lo1 c h j (λe => ?_) ⟨.bl true,H,I,rfl,q⟩;rw [<- l1,<- l2] at e;cases e
def valsO (v d:Addr):HO := .ext λh=>h.IsValuesView v d
theorem valsO_ok {P:yas} {w:yaS} {H:Hp} {h:Heap} {v d:Addr} (e:h.IsValuesView v d):ObjOk P w H h v (valsO v d) :=
 ⟨e,let ⟨o,a,_⟩:=e;⟨o,a⟩,λ_ _ ⟨o,a,r⟩ k=>⟨o,k o a,r⟩⟩
theorem mt_values:MtM X "dict.values" (λx vs H Q=>∃ (a:Addr) (kvs:List (Key×V)),x = .ref a/\vs = []/\Rd H a (.dK kvs)/\∀ v,H v=none->Q (.ref v) (upd H v (valsO v a))):=by
 rintro pins s h H x vs v us Q I f g ⟨a,kvs,rfl,rfl,h1,q⟩;cases f;have c:=g.zero;subst c;obtain ⟨_,lo,ws,kv,d⟩:=h1.ok I.hok;refine yc7 F.slot_dict_values d.typeIs F.entry_dict_values (F.args_dict_values_1 _) (meets_dict_values (zan X.prog X.w) a lo) ⟨⟨ws,d⟩,?_⟩;refine ⟨.ref s.heap.objs.size,_,I.laid (t':=s.toks) (λb o e=>yad _ e) (yaj _) (valsO_ok (d:=a) ⟨_,yan _ rfl,rfl,rfl⟩),rfl,q _ (I.hok.fresh (yaj _))⟩
theorem kv_vals {κ:Type} {kvs:List (κ×V)} {vs:List (κ×yae)} (r:KV kvs vs):Vals (kvs.map (·.2)) (vs.map (·.2)):=by
 induction r with
 | nil=>exact .nil
 | cons a _ b=>exact .cons a.2 b
theorem ziv (hc:X.calm=true):CallR X (.type "list") (λxs H Q=>∃ (v a:Addr) (kvs:List (Key×V)),xs = [.ref v]/\H v=some (valsO v a)/\Rd H a (.dK kvs)/\∀ l,H l=none->Q (.ref l) (upd H l (.lst (kvs.map (·.2))))):=by
 rintro pins s B H xs us Q I r ⟨v,a,kvs,rfl,t,h1,q⟩;obtain ⟨u,rfl,y⟩:=vals1 r;cases y;obtain ⟨A,_⟩:=I.hok v _ t;obtain ⟨z,lo,ws,kv,d⟩:=h1.ok I.hok;have d':=d;obtain ⟨ob,es,ep,h,c,hd,i⟩:=id d';have f:s.heap.DictAt (zan X.prog X.w) a ws ep:=⟨ob,es,h,c,hd,i⟩;have m:ws.length=kvs.length:=kv.length.symm;refine PySem.W.kdl_call PySem.W.kdl_values (I.ok.hd hc) ⟨A,f⟩ (by rw [m];exact z) λh' p b n k e g => ?_;have ea:b.toList=ws.map (·.2):=PySem.W.kdl_vals_eq _ (by rw [ybu];exact g.1) λj x e=>g.2 j x (by rw [<- ybT];exact e);refine ⟨.ref s.heap.objs.size,_,I.laid (o := .lst (kvs.map (·.2))) (t':=p) k (yaj _) ⟨?_,b.toList,n,?_,?_⟩,rfl,q _ (I.hok.fresh (yaj _))⟩
 ·rw [yab];exact z
 ·rw [ea];exact kv_vals kv
 ·rw [Array.toArray_toList];exact e
end
section
variable {P:yas} {w:yaS} {A:yaM} {E:yae->yag->Prop} {s:yag} {it S:Addr}
theorem ext_run {Z:Result->yag->Prop} {res:yae} {n:Nat} (J:Nat->yag->Prop)
  (turn:∀ i t,i < n->J i t->wpAny (model P w) A.in1 (yd9 (.ref it)) (λr a=>∃ v,r=some v/\wpAny (model P w) A.in1 (yfG S (·.push v)) (λ_ t2=>J (i+1) t2) (λe t2=>Z (.error e) t2) a) (λe a=>Z (.error e) a) t)
  (fin:∀ t,J n t->wpAny (model P w) A.in1 (yd9 (.ref it)) (λr a=>r=none/\Z (.ok (.ret res)) a) (λe a=>Z (.error e) a) t) :
  ∀ (k i:Nat) (t:yag),n - i=k->i<=n->J i t->yeg (model P w) A (.builtin "list.extend.loop" ⟨[.ref S,.ref it,res],[]⟩) Z t:=by
 intro k
 induction k with
 | zero =>
  intro i t c hi j;obtain rfl:i=n:=by omega
  refine yck F.entry_extend_loop ?_;rw [ybF yd7 _];show wpAny _ A.in1 (yd9 (.ref it) >>= _) _ _ t;refine yac (ybJ (fin t j) (λr a h => ?_) λ_ _ h=>h);obtain ⟨rfl,h⟩:=h;exact yah h
 | succ k b =>
  intro i t c hi j;have lt:i < n:=by omega
  refine yck F.entry_extend_loop ?_;rw [ybF yd7 _];show wpAny _ A.in1 (yd9 (.ref it) >>= _) _ _ t;refine yac (ybJ (turn i t lt j) (λr a h => ?_) λ_ _ h=>h);obtain ⟨v,rfl,h⟩:=h;show wpAny _ A.in1 (yfG S (·.push v) >>= _) _ _ a;refine yac (ybJ h (λ_ t2 d => ?_) λ_ _ h=>h);exact yah ⟨yeo yd7 _,b (i+1) t2 (by omega) lt d⟩
theorem zfH {T:String} {Q:yae->yag->Prop} (G:∀ h1:Heap,(∀ b o,s.heap.get? b=some o->h1.get? b=some o)->({ s with heap:=h1 }:yag).TypeIs (.ref it) T) (H:(ycn T == ycn "list")=false) (t2:(ycn T == ycn "tuple")=false) (lt:it < s.heap.objs.size)
  (q:∀ (h1:Heap) (n:yae->yag->Prop) (v:yae->yag->Prop),(∀ b o,s.heap.get? b=some o->h1.get? b=some o)->n (.ref it) { s with heap:=h1 }->wpAny (model P w) A.in1.in1 (pyIter (.ref it)) n v { s with heap:=h1 })
  (l:∀ (h1:Heap) (n:Bool->yag->Prop) (v:yae->yag->Prop),(∀ b o,s.heap.get? b=some o->h1.get? b=some o)->(∀ b,n b { s with heap:=h1 })->wpAny (model P w) A.in1.in1 (yb3 (.ref it)) n v { s with heap:=h1 })
  (D:∀ (h1:Heap) (c:Nat),(∀ b o,s.heap.get? b=some o->h1.get? b=some o)->h1.get? s.heap.objs.size=some { cls := .type "list",data := .seq #[] c } ->
   yeg (model P w) A.in1 (.builtin "list.extend.loop" ⟨[.ref s.heap.objs.size,.ref it,.none],[]⟩) (λr a=>match r with | .ok (.ret u)=>u = .none/\Q (.ref s.heap.objs.size) a | .ok _=>False | .error e=>E e a) { s with heap:=h1 }) :
  wpAny (model P w) A (call (.type "list") [.ref it]) Q E s:=by
 have C:s.heap.objs.size≠it:=yby lt;refine callType_codes (Q₁:=λobj d=>obj = .ref s.heap.objs.size/\d = { s with heap:=s.heap.push { cls := .type "list",data := .seq #[] } }) F.called_list (F.typeCall_list_1 _) F.entry_list_init (code_list_new _ ⟨rfl,rfl⟩) λobj d h₁ => ?_;obtain ⟨rfl,rfl⟩:=h₁;have j:(s.heap.push { cls := .type "list",data := .seq #[] }).get? s.heap.objs.size=some { cls := .type "list",data := .seq #[] }:=yan _ rfl;refine ⟨⟨_,j,rfl⟩,F.args_list_init_2 _ _,?_⟩;have m:∀ b o,s.heap.get? b=some o->(s.heap.push { cls := .type "list",data := .seq #[] }).get? b=some o:=λb o e=>yad _ e;have i:∀ (h:Heap) (f:Array yae->Array yae),(∀ b o,s.heap.get? b=some o->h.get? b=some o)->∀ b o,s.heap.get? b=some o->(h.update s.heap.objs.size (ycc f)).get? b=some o :=
  λh f k b o e=>(yb8 _ _ (yby (yar e))).trans (k b o e)
 show wpAny _ _ (do let old <- ycC (.ref s.heap.objs.size);Builtin.List.listUpdate (.ref s.heap.objs.size) (λ_ => #[]);letGo old.toList.reverse;ycB (.ref s.heap.objs.size) (.ref it) .none) _ _ _;generalize s.heap.push { cls := .type "list",data := .seq #[] }=y at j m;refine yac ?_;unfold ycC;refine yac (yb0 j rfl (yah ?_));show wpAny _ _ (yfG s.heap.objs.size (λ_ => #[]) >>= λ_=>letGo (#[]:Array yae).toList.reverse >>= λ_=>ycB (.ref s.heap.objs.size) (.ref it) .none) _ _ _;refine yac (yfe j rfl ?_);have p:=ybR (ycc (λ_=>(#[]:Array yae))) j rfl;have k1:=i y (λ_ => #[]) m;refine yac (wpAny_letGo ?_);dsimp only at p k1 ⊢;generalize y.update s.heap.objs.size (ycc λ_ => #[])=h1 at p k1;unfold ycB;refine yac (ydt (T:=T) (G h1 k1) ?_);have t:Builtin.List.listSameRef (.ref s.heap.objs.size) (.ref it)=false:=by simp [Builtin.List.listSameRef,C]
 simp only [t,H,t2,Bool.or_false,yaR,if_false];refine yac (q h1 _ _ k1 ?_);refine yac (ya1 (l h1 _ _ k1 λz => ?_));have fin:∀ (h:Heap) (c:Nat),(∀ b o,s.heap.get? b=some o->h.get? b=some o)->h.get? s.heap.objs.size=some { cls := .type "list",data := .seq #[] c }->wpAny (model P w) A.in1.in1 (again (.builtin "list.extend.loop" ⟨[.ref s.heap.objs.size,.ref it,.none],[]⟩))
   (λfin a=>match fin with | .done f=>(match (Except.ok f:Result) with | .ok (.ret u)=>u = .none/\Q (.ref s.heap.objs.size) a | .ok _=>False | .error e=>E e a) | .again c'=>c'.quiet=true/\yeg (model P w) A.in1 c' (λr a=>match r with | .ok (.ret u)=>u = .none/\Q (.ref s.heap.objs.size) a | .ok _=>False | .error e=>E e a) a) (λe a=>E e a) { s with heap:=h }:=λh c k g =>
  yah ⟨yeo yd7 _,D h c k g⟩
 refine ydz (λ_ => ?_) (λ_=>fin h1 _ k1 p);refine yac (yed (yac ?_));show wpAny _ _ (yfG s.heap.objs.size (·.push .none) >>= λ_=>yfG s.heap.objs.size (·.pop)) _ _ _;refine yac (yfe p rfl ?_);have B:=ybR (ycc (·.push ycm)) p rfl;refine yfe (hz:=by seq_fits) B rfl ?_;exact fin _ _ (i _ _ (i _ _ k1)) (ybR (ycc (·.pop)) B rfl)
end
section
variable {X:Cx} {pins:List (Addr×Obj)} {σ:St} {H:Hp} {s:yag} {h':Heap}
theorem Inv.lays {H':Hp} {t':Nat} (I:Inv X pins σ H s) (k:∀ b u,s.heap.get? b=some u->h'.get? b=some u) (old:∀ b o,H b=some o->H' b=some o)
  (new:∀ b o,H' b=some o->H b=some o\/(s.heap.objs.size<=b/\ObjOk X.prog X.w H' h' b o)):Inv X pins σ H' { s with heap:=h',toks:=t' }:=by
 refine I.un ⟨λb u q _ _ _=>k b u q,λb u q _ _ _=>⟨u.slots,k b u q⟩,λb u q n _ => ?_,λb u q _=>⟨u,k b u q⟩,λb xs q=>old b _ q,λb u xs q=>old b _ q,λb ps q=>⟨#[],by rw [old b _ q];simp⟩⟩ λb o e => ?_
 ·cases z:H' b with
  | none=>rfl
  | some o =>
   rcases new b o z with y | ⟨y,_⟩
   ·rw [n] at y;cases y
   ·exact absurd (yar q) (Nat.not_lt.mpr y)
 ·rcases new b o e with y | ⟨_,y⟩
  ·exact ((I.hok b o y).stay (λc v _ q=>k c v q) (λ_ q=>old _ _ q) λ_ _ q=>old _ _ q)
  ·exact y
end
theorem zit:ye5 (.type "list_reverseiterator") "__len__" = pure none:=by rw [yep,ycO];kernel_rfl
theorem lri_hint:ye5 (.type "list_reverseiterator") "__length_hint__" = pure (some (.builtin "list_reverseiterator.__length_hint__")):=by rw [yep,ycO];kernel_rfl
section
variable {P:yas} {w:yaS} {A:yaM} {E:yae->yag->Prop} {s:yag} {r:Addr}
theorem hint_lri {Q:Bool->yag->Prop} (d:s.TypeIs (.ref r) "list_reverseiterator") (h:Q false s):wpAny (model P w) A (yb3 (.ref r)) Q E s:=by
 unfold yb3;refine yac (yci d zit ?_);show wpAny _ A (specialOf (yaq r) (ycM "__length_hint__") >>= _) _ _ _;refine yac (yci d lri_hint ?_);generalize c:("list_reverseiterator.__length_hint__" : String)=e
 wp_delta
 rw [show splitId e=some ("list_reverseiterator", "__length_hint__") from by subst c;decide +kernel];subst c;refine yac (ydl (T := "list_reverseiterator") (b:=true) d (by rw [yeM];kernel_rfl) ?_);refine ydz (λa=>absurd a (by decide)) (λ_ => ?_);refine ydz (λ_ => ?_) (λa=>absurd (by decide +kernel) a);refine ydz (λa=>absurd a (by decide +kernel)) (λ_ => ?_);exact yah h
end
theorem zhi:ybf "reversed" = some (.type "reversed"):=by decide +kernel
def LstOf (X:Cx) (T:String) (r:List V->Hp->(V->Hp->Prop)->Prop):Prop :=
 ∀ (pins:List (Addr×Obj)) (s:yag) (σ:St) (H:Hp) (vs:List V) (us:List yae) (Q:V->Hp->Prop),Inv X pins σ H s->Vals vs us->r vs H Q ->
  wpAny (model X.prog X.w) X.A (call (.type T) us) (λv s1=>wpAny (model X.prog X.w) X.A (call (.type "list") [v]) (EP X pins σ Q) X.xe s1) X.xe s
section
variable {X:Cx} {K:PySem.W.Frag}
theorem zgO {T:String} {x:Str} {a:Expr} {es:List Expr} {r:List V->Hp->(V->Hp->Prop)->Prop} {j:TA} {p l pos b:Pos} (hc:LstOf X T r) (z:Gl X "list") (o:X.mg "list" = none) (c:Gl X x) (d:X.mg x=none) (t:ybf x=some (.type T)) (A:PA X (a :: es) j)
  (q:x ≠ "__name__":=by decide) (g:(x == ("__debug__" : Str))=false:=by decide)
  (n:yaZ (a :: es) X.env=(false,eval a X.env) :: yaZ es X.env:=by rfl) (f:(ydM b (yaZ es X.env)).any (·.1)=false:=by rfl) :
  PE X (.Call (.Name "list" p) [.Call (.Name x l) (a :: es) [] b] [] pos) (tCB r j):=by
 intro pins s k H Q I h;refine ycK (zdh I z o (by decide +kernel:ybf "list" = some (.type "list")) ?_ (by decide) (by decide));refine ybp ?_ rfl rfl;show wpAny _ _ (spliced [(false,eval (.Call (.Name x l) (a :: es) [] b) X.env)]) _ _ s;refine ybG ?_;refine ybJ (ycK (zdh I c d t ?_ q g)) (λv i h1=>ycY h1) λ_ _ e=>e;exact ybp (thn (A b pins s k H _ I h) (by rintro us i ⟨vs,u,B,m,y⟩;exact hc pins i k u vs us Q B m y)) n f
theorem lo_rev (hc:X.calm=true) (R:X.K=K):LstOf X "reversed" (λxs H Q=>∃ (l:Addr) (ys:List V),xs = [.ref l]/\SqL K H l ys/\∀ r,H r=none->Q (.ref r) (upd H r (.lst ys.reverse))):=by
 subst R;intro pins s U H vs us Q I r h;obtain ⟨l,ys,rfl,J,q⟩:=h;obtain ⟨u,rfl,O⟩:=vals1 r;cases O;obtain ⟨d,F,p,z⟩:=I.list J;refine call_reversed_list p.isList ?_;have sz:d.toArray.size=ys.length:=by rw [yaE,F.length]
 have N:((d.toArray.size:Nat):Int) - 1=(d.toArray.size:Int) - 1 - ((0:Nat):Int):=by omega
 have lt:l < s.heap.objs.size:=let ⟨o,ho,_⟩:=p.isList;yar ho;generalize y:revObj l (((d.toArray.size:Nat):Int) - 1)=ob;have m:(s.heap.push ob).IsRevIter s.heap.objs.size l ((d.toArray.size:Int) - 1 - ((0:Nat):Int)):=by rw [<- N];exact ⟨_,yan _ (by rw [<- y];rfl),by rw [<- y];rfl,by rw [<- y];rfl⟩
 have sp:(s.heap.push ob).objs.size=s.heap.objs.size+1:=ybr ..;have C:∀ b o,s.heap.get? b=some o->(s.heap.push ob).get? b=some o:=λb o e=>yad _ e;refine zfH (s:={ s with heap:=s.heap.push ob }) (T := "list_reverseiterator") (λh1 k=>(m.at λo e=>k _ o e).typeIs) (by decide) (by decide) (by rw [sp];exact ycq _) (λh1 M S k q=>wpAny_pyIter_revIter (m.at λo e=>k _ o e) q) (λh1 M S k q=>hint_lri (m.at λo e=>k _ o e).typeIs (q false)) λh1 c k g => ?_;have W:=Walks.listRev (prog:=X.prog) (w:=X.w) (A:=X.A.in1.in1) (I.ok.hd hc) s.heap.objs.size l (yay lt) d.toArray;refine codeAny_extend_loopS W.toS (by rw [sz];exact z) _ (by show (s.heap.push ob).objs.size∉_;rw [sp];simp only [yaJ,yb7,or_false,not_or];exact ⟨Nat.succ_ne_self _,yby (ybS lt)⟩) _ d.toArray.size 0 _ #[] c rfl (yaW _) ⟨yaW _,m.at λo e=>k _ o e,p.isList.at λo e=>k _ o (C _ o e)⟩ g (ItemsOf.nil _) λE a G D B f=>⟨rfl,?_⟩;rw [Moved.eq_with D];have ea:a.toList=d.reverse:=by
  refine List.ext_getElem? λj => ?_;rcases yb6 j d.length with n | n
  ·have t:j < a.size:=by rw [f.1];simpa using n
   have q:=f.2 j a[j] (by simp [t]);rw [ybT,List.getElem?_reverse n,show a[j]? = some a[j] by simp [t]];simpa using q.symm
  ·have:=f.1;rw [ybV (l:=a.toList) (by rw [ybu,this];simpa using n),ybV (by simpa using n)]
 refine ⟨.ref (s.heap.push ob).objs.size,_,I.laid (h':=E.heap) (t':=E.toks) (λb o e => ?_) (by rw [sp];omega) (show ObjOk X.prog X.w _ _ _ (.lst ys.reverse) from ⟨by rw [yd5];exact z,a.toList,G,by rw [ea];exact F.reverse,?_⟩),rfl,q _ (I.hok.fresh (by rw [sp];omega))⟩
 ·have v:=yar e;refine D.heap b o (λi => ?_) (k b o (C b o e));rcases yaJ.mp i with L | i
  ·rw [L] at v;exact absurd v (Nat.not_lt.mpr (by show s.heap.objs.size<=(s.heap.push ob).objs.size;rw [sp];exact yda _))
  ·rw [yai.mp i] at v;exact absurd v (yc8 _)
 ·rw [Array.toArray_toList];exact B
end
def IsZp (h:Heap) (z TI TO:Addr) (f0:yae) (b:Bool):Prop :=
 h.get? z=some { cls := .type "zip",dict:=none,data := .fields #[f0,.bool b,.bool false,.ref TI,.ref TO],slots := #[] }
section
variable {P:yas} {w:yaS} {A:yaM} {E:yae->yag->Prop} {s:yag}
theorem zii {a:Addr} {o:Obj} {Q:Option Obj->yag->Prop} (b:s.heap.get? a=some o) (h:Q (some o) s):wpAny (model P w) A (loadIfAlive a) Q E s:=by
 intro Γ p hΓ;simp only [loadIfAlive,Sem.wp,b];exact h
theorem zib {z TI TO a:Addr} {b:Bool} {o:Obj} {Q:Bool->yag->Prop} (hz:IsZp s.heap z TI TO (yet a) b) (d:s.heap.get? a=some o)
  (h:∀ h',IsZp h' z TI TO (yet a) true->Heap.SameBut z s.heap h'->Q false { s with heap:=h' }):wpAny (model P w) A (ya2 (.ref z)) Q E s:=by
 unfold ya2;refine yac (ybE hz rfl (x:=yet a) rfl ?_);show wpAny _ _ (loadIfAlive ((a:Int).toNat) >>= _) _ _ _;rw [yeC];refine yac (zii d ?_);show wpAny _ _ (field (.ref z) 1 >>= _) _ _ _;refine yac (ybE hz rfl (x := .bool b) rfl ?_);cases b with
 | false =>
  refine yac (ycP hz (by simp) λh1 c e1=>yah (h h1 c e1))
 | true=>exact yah (h s.heap hz (Heap.SameBut.refl ..))
theorem zp_item {z TI TO i1 i2 h:Addr} {p t:List Addr} {v u k:Nat} {B q:Nat->yae->Prop} {f j:Nat->Heap->Prop} {b:Bool} {o:Obj} {Q:Option yae->yag->Prop} (a:A.handled=none) (g:∀ A:yaM,A.handled=none->Draws P w A i1 p v B f) (i:∀ A:yaM,A.handled=none->Draws P w A i2 t u q j)
  (N:Zap z TI TO i1 i2 p t) (hz:IsZp s.heap z TI TO (yet h) b) (D:s.heap.get? h=some o) (l:IsPair s.heap TI (.ref i1) (.ref i2)) (H:f k s.heap) (O:j k s.heap) (k1:k < v) (k2:k < u)
  (L:∀ x y h' G,B k x->q k y->IsZp h' z TI TO (yet h) true->f (k+1) h'->j (k+1) h'->IsPair h' s.heap.objs.size x y ->
   (∀ c o,c≠z->c≠i1->c≠i2->s.heap.get? c=some o->h'.get? c=some o)->Q (some (.ref s.heap.objs.size)) { s with heap:=h',toks:=G }) :
  wpAny (model P w) A (yd9 (.ref z)) Q E s:=by
 have r:s.TypeIs (.ref z) "zip":=⟨_,hz,rfl⟩;unfold yd9;refine yac (ydK (ybB (name:=ycM "__next__") r ycA
  (ybi ycA r yeW ?_ (yeH _))))
 show wpAny _ _ (field (.ref z) 2 >>= _) _ _ _;refine yac (ybE hz rfl (x := .bool false) rfl ?_);show wpAny _ _ (field (.ref z) 3 >>= _) _ _ _;refine yac (ybE hz rfl (x := .ref TI) rfl ?_);refine yac (yb0 l rfl ?_);show wpAny _ _ (ya2 (.ref z) >>= _) _ _ _;refine yac (zib hz D λh1 z1 e1 => ?_);simp only [yaR,if_false];refine yac ?_;rw [<- yen];simp only [yc2,ydV];refine yac (yac (ya1 ?_));show wpAny _ _ (ybN (.ref i1) >>= _) _ _ _;refine yac ((g _ (by exact a)).item k _ _ _ k1 (Draws.but (g A a) H e1 N.fz1) λx h2 I p1 J e2=>yah (yah ?_))
 replace e2:Heap.SameBut i1 h1 h2:=e2
 refine yac (yac (ya1 ?_));show wpAny _ _ (ybN (.ref i2) >>= _) _ _ _;refine yac ((i _ (by exact a)).item k _ _ _ k2 (Draws.but (i A a) (Draws.but (i A a) O e1 N.fz2) e2 N.f12) λy d m M R e3=>yah (yah (yah ?_)))
 replace e3:Heap.SameBut i2 h2 d:=e3
 refine yac (wpAny_newTuple ?_ (zah (show 2<=100000 by decide)));have hsz:d.objs.size=s.heap.objs.size:=by rw [e3.1,e2.1,e1.1]
 have C:IsZp d z TI TO (yet h) true:=e3.extBut _ _ (ybt N.z2) (e2.extBut _ _ (ybt N.z1) z1);have n:f (k+1) d:=Draws.but (g A a) J e3 N.f21;have up:∀ c o,d.get? c=some o->(d.push { cls := .type "tuple",data := .seq #[x,y] }).get? c=some o:=λc o e=>yad _ e;refine yah ⟨_,rfl,yah ?_⟩;have:=L x y (d.push { cls := .type "tuple",data := .seq #[x,y] }) m p1 M (up _ _ C) ((g A a).frame _ _ _ n λc _ o e=>up c o e) ((i A a).frame _ _ _ R λc _ o e=>up c o e) (by rw [<- hsz];exact yan _ rfl)
  λc o c1 c2 c3 e=>up c o (e3.extBut _ _ c3 (e2.extBut _ _ c2 (e1.extBut _ _ c1 e)))
 rw [<- hsz] at this;exact this
theorem zp_end {z TI TO i1 i2 j:Addr} {d t:List Addr} {k:Nat} {u:Nat->yae->Prop} {f:Nat->Heap->Prop} {b:Bool} {o:Obj} {Q:Option yae->yag->Prop} (i:A.handled=none) (g:∀ A:yaM,A.handled=none->Draws P w A i1 d k u f)
  (N:Zap z TI TO i1 i2 d t) (hz:IsZp s.heap z TI TO (yet j) b) (m:s.heap.get? j=some o) (a:IsPair s.heap TI (.ref i1) (.ref i2)) (p:f k s.heap)
  (r:∀ h',(∀ c o,c≠z->c≠i1->c≠i2->s.heap.get? c=some o->h'.get? c=some o)->Q none { s with heap:=h' }) :
  wpAny (model P w) A (yd9 (.ref z)) Q E s:=by
 have h:s.TypeIs (.ref z) "zip":=⟨_,hz,rfl⟩;unfold yd9;refine yac (ydK (ybB (name:=ycM "__next__") h ycA
  (ybi ycA h yeW ?_ (yeH _))))
 show wpAny _ _ (field (.ref z) 2 >>= _) _ _ _;refine yac (ybE hz rfl (x := .bool false) rfl ?_);show wpAny _ _ (field (.ref z) 3 >>= _) _ _ _;refine yac (ybE hz rfl (x := .ref TI) rfl ?_);refine yac (yb0 a rfl ?_);show wpAny _ _ (ya2 (.ref z) >>= _) _ _ _;refine yac (zib hz m λh1 v e1 => ?_);simp only [yaR,if_false];refine yac ?_;rw [<- yen];simp only [yc2,ydV];refine yac (yac (ya1 ?_));show wpAny _ _ (ybN (.ref i1) >>= _) _ _ _;refine yac ((g _ (by exact i)).done _ _ _ (Draws.but (g A i) p e1 N.fz1) λh2 e e2 n => ?_);obtain ⟨o,l,hc⟩:=n;exact yac (ydl (T := "StopIteration") (b:=true) ⟨o,l,hc⟩ isSubtype_stop (yah (r _ λc o c1 c2 c3 q=>e2 _ _ c2 (e1.extBut _ _ c1 q))))
end
theorem ziy:ye5 (.type "zip") "__len__" = pure none:=by rw [yep,ycO];kernel_rfl
theorem zgW:ye5 (.type "zip") "__length_hint__" = pure none:=by rw [yep,ycO];kernel_rfl
theorem hint_zip {P:yas} {w:yaS} {A:yaM} {E:yae->yag->Prop} {s:yag} {r:Addr} {Q:Bool->yag->Prop} (a:s.TypeIs (.ref r) "zip") (h:Q true s):wpAny (model P w) A (yb3 (.ref r)) Q E s:=by
 unfold yb3;refine yac (yci a ziy ?_);show wpAny _ A (specialOf (yaq r) (ycM "__length_hint__") >>= _) _ _ _;exact yac (yci a zgW (yah h))
structure ZJ (s:yag) (n l t:Nat) (xs ys:List yae) (i:Nat) (u:yag):Prop where
 eq:u = { s with heap:=u.heap,toks:=u.toks }
 old:∀ b o,s.heap.get? b=some o->u.heap.get? b=some o
 it1:u.heap.IsListIter n l i
 it2:u.heap.IsListIter (n+1:Nat) t i
 ti:IsPair u.heap (n+2:Nat) (.ref n) (.ref (n+1:Nat))
 got:∃ (ts:List Addr) (c:Nat),ts.length=i/\ts.Nodup/\u.heap.get? (n+5:Nat)=some { cls := .type "list",data := .seq (ts.map yaq).toArray c } /\
  (∀ (j:Nat) a,ts[j]? = some a->n+5 < a/\∃ x y,xs[j]? = some x/\ys[j]? = some y/\IsPair u.heap a x y) /\
  ((i=0/\IsZip u.heap (n+4:Nat) (n+2:Nat) (n+3:Nat) .none/\∃ a b,IsPair u.heap (n+3:Nat) a b)\/∃ (t0:Addr) (b:Bool),ts[0]? = some t0/\IsZp u.heap (n+4:Nat) (n+2:Nat) (n+3:Nat) (yet t0) b)
section
variable {P:yas} {w:yaS} {A:yaM} {E:yae->yag->Prop} {s:yag}
theorem zj_turn {l t:Nat} {xs ys:List yae} {i:Nat} {u:yag} {Z:yae->yag->Prop} (d:A.handled=none) (S:s.heap.IsList l xs.toArray) (Q:s.heap.IsList t ys.toArray) (e:xs.length=ys.length) (sm:xs.length<=1000) (lt:i < xs.length) (J:ZJ s s.heap.objs.size l t xs ys i u) :
  wpAny (model P w) A (yd9 (.ref (s.heap.objs.size+4))) (λr t1=>∃ v,r=some v/\wpAny (model P w) A (yfG (s.heap.objs.size+5) (·.push v)) (λ_ t2=>ZJ s s.heap.objs.size l t xs ys (i+1) t2) Z t1) Z u:=by
 obtain ⟨eq,old,C,p,I,ts,c,D,nd,g,G,st⟩:=J;have M:l < s.heap.objs.size:=let ⟨o,ho,_⟩:=S;yar ho;have lt':t < s.heap.objs.size:=let ⟨o,ho,_⟩:=Q;yar ho;have N:=zap_mk s.heap.objs.size l t M lt';have V:u.heap.IsList l xs.toArray:=S.at λo q=>old _ o q;have R:u.heap.IsList t ys.toArray:=Q.at λo q=>old _ o q;have big:s.heap.objs.size+5 < u.heap.objs.size:=yar g;have L:∀ a∈ts,a < u.heap.objs.size:=λa H=>by
  obtain ⟨j,h⟩:=List.getElem?_of_mem H;obtain ⟨_,x,y,_,_,q⟩:=G j a h;exact yar q
 have U:∀ (x y:yae) (h':Heap) (m:Tok) (f:Addr) (b:Bool),xs[i]? = some x->ys[i]? = some y->IsZp h' (s.heap.objs.size+4:Nat) (s.heap.objs.size+2:Nat) (s.heap.objs.size+3:Nat) (yet f) b->(ts ++ [u.heap.objs.size])[0]? = some f->h'.IsListIter s.heap.objs.size l (i+1)->h'.IsListIter (s.heap.objs.size+1:Nat) t (i+1)->IsPair h' u.heap.objs.size x y ->
   (∀ c o,c≠(s.heap.objs.size+4:Nat)->c≠(s.heap.objs.size+3:Nat)->c≠s.heap.objs.size->c≠(s.heap.objs.size+1:Nat)->u.heap.get? c=some o->h'.get? c=some o) ->
   wpAny (model P w) A (yfG (s.heap.objs.size+5) (·.push (.ref u.heap.objs.size))) (λ_ t2=>ZJ s s.heap.objs.size l t xs ys (i+1) t2) Z { u with heap:=h',toks:=m }:=by
  intro x y h' m f b hx hy n B j1 j2 pr fr;have g':=fr _ _ (by omega) (by omega) (by omega) (by omega) g;have sz:(ts.map yaq).toArray.size<=yaO:=by simp [D];exact zah (show i<=100000 by omega)
  refine yfe g' rfl ?_ sz (by simp [D];exact zah (show i<=100000 by omega));have gs:=ybR (ycc (·.push (yaq u.heap.objs.size))) g' rfl;have ot:∀ b o,b≠(s.heap.objs.size+5:Nat)->h'.get? b=some o->(h'.update (s.heap.objs.size+5:Nat) (ycc (·.push (yaq u.heap.objs.size)))).get? b=some o:=λb o nb q=>(yb8 _ _ (ybt nb)).trans q;refine ⟨by rw [eq],λb o q => ?_,j1.at λo q=>ot _ o (by omega) q,j2.at λo q=>ot _ o (by omega) q,ot _ _ (by omega) (fr _ _ (by omega) (by omega) (by omega) (by omega) I),ts ++ [u.heap.objs.size],c+1,by simp [D],?_,?_,λj a h => ?_,.inr ⟨f,b,B,ot _ _ (by omega) n⟩⟩
  ·have k:=yar q;exact ot _ _ (yay (yaP k (by omega))) (fr b o (yay (yaP k (by omega))) (yay (yaP k (by omega))) (yay k) (yay (yaP k (by omega))) (old b o q))
  ·exact ybq.mpr ⟨nd,by simp,λa H b k=>by rw [yai.mp k];exact yay (L a H)⟩
  ·rw [gs];simp [ycc]
  ·rcases yb6 j ts.length with q | q
   ·rw [ycS q] at h;obtain ⟨a1,x',y',a2,a3,a4⟩:=G j a h;exact ⟨a1,x',y',a2,a3,ot _ _ (yby a1) (fr _ _ (by omega) (by omega) (by omega) (by omega) a4)⟩
   ·rw [ycD q] at h;have E:j - ts.length=0:=by
     rcases Nat.eq_zero_or_pos (j - ts.length) with z | z
     ·exact z
     ·rw [ybV (by show 1<=_;exact z)] at h;cases h
    have ea:a=u.heap.objs.size:=by rw [E] at h;simpa using h.symm
    have Y:j=i:=by omega
    subst ea Y;exact ⟨big,x,y,hx,hy,ot _ _ (yby big) pr⟩
 have k1:i < xs.toArray.size:=by simpa using lt
 have k2:i < ys.toArray.size:=by simpa [<- e] using lt
 rcases st with ⟨i0,n,a,b,W⟩ | ⟨f,b,B,n⟩
 ·have f:ts = []:=yer.mp (D.trans i0);refine pn_zip d (λA d=>yeI d s.heap.objs.size l (yay M) xs.toArray) (λA d=>yeI d (s.heap.objs.size+1:Nat) t (yay (ybS lt')) ys.toArray) N n I W ⟨C,V⟩ ⟨p,R⟩ k1 k2 λx y h' m F O a3 a4 a5 a6 a7 a8 a9=>⟨_,rfl,U x y h' m u.heap.objs.size false (by simpa using F) (by simpa using O) a3 (by simp [f]) a5.1 a6.1 a7 λc o c1 c2 c3 c4 q=>a9 c o c1 c2 c3 c4 q⟩
 ·obtain ⟨_,x0,y0,_,_,tp⟩:=G 0 f B;refine zp_item d (λA d=>yeI d s.heap.objs.size l (yay M) xs.toArray) (λA d=>yeI d (s.heap.objs.size+1:Nat) t (yay (ybS lt')) ys.toArray) N n tp I ⟨C,V⟩ ⟨p,R⟩ k1 k2 λx y h' m F O a3 a5 a6 a7 a9=>⟨_,rfl,U x y h' m f true (by simpa using F) (by simpa using O) a3 ?_ a5.1 a6.1 a7 λc o c1 _ c3 c4 q=>a9 c o c1 c3 c4 q⟩;rw [ycS (yav.mp B).1];exact B
theorem zj_done {l t:Nat} {xs ys:List yae} {u:yag} {Q:Option yae->yag->Prop} (f:A.handled=none) (m:s.heap.IsList l xs.toArray) (B:s.heap.IsList t ys.toArray) (v:xs ≠ []) (J:ZJ s s.heap.objs.size l t xs ys xs.length u)
  (h:∀ (h':Heap) (ts:List Addr) (c:Nat),ts.length=xs.length->ts.Nodup->(∀ b o,s.heap.get? b=some o->h'.get? b=some o)->h'.get? (s.heap.objs.size+5:Nat)=some { cls := .type "list",data := .seq (ts.map yaq).toArray c } ->
   (∀ (j:Nat) a,ts[j]? = some a->s.heap.objs.size+5 < a/\∃ x y,xs[j]? = some x/\ys[j]? = some y/\IsPair h' a x y)->Q none { s with heap:=h',toks:=u.toks }) :
  wpAny (model P w) A (yd9 (.ref (s.heap.objs.size+4))) Q E u:=by
 obtain ⟨D,old,i,r,M,ts,c,I,O,g,k,st⟩:=J;have n:l < s.heap.objs.size:=let ⟨o,ho,_⟩:=m;yar ho;have lt':t < s.heap.objs.size:=let ⟨o,ho,_⟩:=B;yar ho;have N:=zap_mk s.heap.objs.size l t n lt';have F:u.heap.IsList l xs.toArray:=m.at λo q=>old _ o q;rcases st with ⟨G,_⟩ | ⟨H,b,z,p⟩
 ·exact absurd (yer.mp G) v
 ·obtain ⟨_,S,U,_,_,tp⟩:=k 0 H z;refine zp_end f (λA f=>yeI f s.heap.objs.size l (yay n) xs.toArray) N p tp M ⟨by simpa using i,F⟩ λh' d => ?_;have fr:∀ (c:Nat) o,c≠(s.heap.objs.size+4:Nat)->c≠(s.heap.objs.size:Nat)->c≠(s.heap.objs.size+1:Nat)->u.heap.get? c=some o->h'.get? c=some o:=d;have:=h h' ts c I O (λb o q => ?_) (fr _ _ (by omega) (by omega) (by omega) g) λj a C => ?_
  ·rw [D];exact this
  ·have e:=yar q;exact fr b o (yay (yaP e (by omega))) (yay e) (yay (yaP e (by omega))) (old b o q)
  ·obtain ⟨a1,L,R,a2,a3,a4⟩:=k j a C;exact ⟨a1,L,R,a2,a3,fr _ _ (by omega) (by omega) (by omega) a4⟩
end
section
variable {prog:yas} {w:yaS} {A:yaM} {E:yae->yag->Prop} {s:yag}
theorem call_zipS {l t:Addr} {xs ys:Array yae} {Q:yae->yag->Prop} (i:s.heap.IsList l xs) (b:s.heap.IsList t ys)
  (h:∀ h',h'.objs.size=s.heap.objs.size+5->IsZip h' (s.heap.objs.size+4) (s.heap.objs.size+2) (s.heap.objs.size+3) .none->IsPair h' (s.heap.objs.size+2) (.ref s.heap.objs.size) (.ref (s.heap.objs.size+1)) ->
   IsPair h' (s.heap.objs.size+3) .none .none->h'.IsListIter s.heap.objs.size l 0->h'.IsListIter (s.heap.objs.size+1) t 0 ->
   (∀ c o,s.heap.get? c=some o->h'.get? c=some o)->Q (.ref (s.heap.objs.size+4)) { s with heap:=h' }) :
  wpAny (model prog w) A (call (.type "zip") [.ref l,.ref t]) Q E s:=by
 refine callType_new F.called_zip (by decide) (F.typeCall_zip_2 _ _) (F.newCall_zip_2 _ _) (λobj=>F.args_object_init_3 obj _ _) F.entry_zip_new
  (zeM l t xs ys) ⟨i,b,?_⟩
 have d:(yh1 s.heap l).objs.size=s.heap.objs.size+1:=ybr ..;have e:(yh2 s.heap l t).objs.size=s.heap.objs.size+2:=by rw [ybr,d]
 have a:(yh3 s.heap l t).objs.size=s.heap.objs.size+3:=by rw [ybr,e]
 have f:(yh4 s.heap l t).objs.size=s.heap.objs.size+4:=by rw [ybr,a]
 have n:(yh5 s.heap l t).objs.size=s.heap.objs.size+5:=by rw [ybr,f]
 have g:(yh5 s.heap l t).get? (yh4 s.heap l t).objs.size=some _:=yan _ rfl;have k:(yh5 s.heap l t).get? (yh3 s.heap l t).objs.size=some _:=yad _ (yan _ rfl);have m:(yh5 s.heap l t).get? (yh2 s.heap l t).objs.size=some _:=yad _ (yad _ (yan _ rfl));have j:(yh5 s.heap l t).get? (yh1 s.heap l).objs.size=some _:=yad _ (yad _ (yad _ (yan _ rfl)));have p:(yh5 s.heap l t).get? s.heap.objs.size=some _:=yad _ (yad _ (yad _ (yad _ (yan _ rfl))));show _/\_;rw [e,a,f] at g;rw [d,e] at m;rw [a] at k;rw [d] at j;rw [f];exact ⟨⟨_,g,rfl⟩,h _ n g m k ⟨_,p,rfl,rfl⟩ ⟨_,j,rfl,rfl⟩ λc o x =>
  yad _ (yad _ (yad _ (yad _ (yad _ x))))⟩
end
theorem zfD:∀ ts:List Addr,Vals (ts.map V.ref) (ts.map yaq)
 | [] => .nil
 | t :: r => .cons (show RelV (.ref t) (.ref t) from rfl) (zfD r)
theorem zgM {xs:List V} {us:List yae} {j:Nat} {u:yae} (r:Vals xs us) (e:us[j]? = some u):∃ x,xs[j]? = some x/\RelV x u:=by
 have l:=r.length;have lt:j < us.length:=(yav.mp e).1;have ex:xs[j]? = some (xs[j]'(by omega)):=yaa (by omega);obtain ⟨c,a,b⟩:=r.get ex;rw [e] at a;cases a;exact ⟨_,ex,b⟩
theorem idx_at:∀ (ts:List Addr) (b:Addr) (j:Nat),ts.idxOf? b=some j->ts[j]? = some b:=by
 intro ts b j e;unfold List.idxOf? at e;obtain ⟨h,q,_⟩:=List.findIdx?_eq_some_iff_getElem.mp e;rw [yaa h];simpa using q
def zipH (H:Hp) (l:Addr) (ts:List Addr) (xs ys:List V):Hp:=λb=>if b=l then some (.lst (ts.map V.ref)) else match ts.idxOf? b with | some j=>(match xs[j]?,ys[j]? with | some x,some y=>some (.tup [x,y]) | _,_=>H b) | none=>H b
def rZip (K:PySem.W.Frag):List V->Hp->(V->Hp->Prop)->Prop:=λvs H Q=>∃ (l t:Addr) (xs ys:List V),vs = [.ref l,.ref t]/\SqL K H l xs/\SqL K H t ys/\xs.length=ys.length/\xs ≠ []/\xs.length<=1000 /\
 ∀ (r:Addr) (ts:List Addr),H r=none->ts.length=xs.length->ts.Nodup->(∀ a∈ts,H a=none/\a≠r)->Q (.ref r) (zipH H r ts xs ys)
section
variable {X:Cx} {K:PySem.W.Frag}
theorem lo_zip (hc:X.calm=true) (hK:X.K=K):LstOf X "zip" (rZip K):=by
 subst hK;intro pins s Y H vs us Q I r h;obtain ⟨l,t,xs,ys,rfl,hl,hr,el,U,sm,q⟩:=h;cases r with
 | cons r rr =>
 cases rr with
 | cons r' p =>
 cases p;obtain rfl:_=yaq l:=r;obtain rfl:_=yaq t:=r';obtain ⟨us,L,pl,hz⟩:=I.list hl;obtain ⟨ws,d,pt,O⟩:=I.list hr;have l1:=L.length;have l2:=d.length;refine call_zipS pl.isList pt.isList λh' hs a1 a2 a3 a4 a5 M => ?_;refine zfH (s:={ s with heap:=h' }) (T := "zip") (λh1 k=>⟨_,k _ _ a1,rfl⟩) (by decide) (by decide) (yar a1) (λh1 W S k q=>wpAny_pyIter_zip (k _ _ a1) q) (λh1 W S k q=>hint_zip ⟨_,k _ _ a1,rfl⟩ (q true)) λh1 c k g => ?_;have D:h'.objs.size=s.heap.objs.size+5:=hs;have R:∀ b o,s.heap.get? b=some o->h1.get? b=some o:=λb o e=>k b o (M b o e);have g5:h1.get? (s.heap.objs.size+5:Nat)=some { cls := .type "list",data := .seq (([]:List Addr).map yaq).toArray c }:=by rw [<- D];exact g
 have V:ZJ s s.heap.objs.size l t us ws 0 { s with heap:=h1 }:=⟨rfl,R,a4.at λo e=>k _ o e,a5.at λo e=>k _ o e,k _ _ a2,[],c,rfl,yce,g5,λj a C=>by simp at C,.inl ⟨rfl,k _ _ a1,_,_,k _ _ a3⟩⟩;show yeg _ _ (.builtin "list.extend.loop" ⟨[.ref h'.objs.size,.ref (s.heap.objs.size+4),.none],[]⟩) _ _;rw [D];refine ext_run (A:=X.A.in1) (res := .none) (n:=us.length) (Z:=λr G=>match r with | .ok (.ret u)=>u = .none/\EP X pins Y Q (.ref (s.heap.objs.size+5)) G | .ok _=>False | .error e=>X.xe e G) (λi u=>ZJ s s.heap.objs.size l t us ws i u) (λi u lt J=>zj_turn (by exact I.ok.hd hc) pl.isList pt.isList (by omega) (by omega) lt J) (λu J=>zj_done (by exact I.ok.hd hc) pl.isList pt.isList (λe=>U (yer.mp (by rw [l1,e];rfl))) J λh2 ts c2 E nd kk gl B=>⟨rfl,rfl,?_⟩) us.length 0 _ rfl (yaW _) V;have fr:∀ b,s.heap.objs.size<=b->H b=none:=λb m=>I.hok.fresh m;have F:∀ a∈ts,s.heap.objs.size+5 < a:=λa f=>by
  obtain ⟨j,C⟩:=List.getElem?_of_mem f;exact (B j a C).1
 refine ⟨.ref (s.heap.objs.size+5),zipH H (s.heap.objs.size+5) ts xs ys,?_,rfl,q _ ts (fr _ (ycG _ _)) (E.trans l1.symm) nd λa f=>⟨fr _ (yc6 (ycN (ycG _ _) (F a f))),yby (F a f)⟩⟩;have hi:∀ (b:Addr) (j:Nat),ts.idxOf? b=some j->ts[j]? = some b:=idx_at ts;refine I.lays (h':=h2) (t':=u.toks) kk (λb o e => ?_) λb o e => ?_
 ·have m:b < s.heap.objs.size:=by
   rcases yb6 b s.heap.objs.size with z | z
   ·exact z
   ·rw [fr b z] at e;cases e
  unfold zipH;rw [if_neg (yay (yaP m (ycG _ _)))];cases v:ts.idxOf? b with
  | none=>exact e
  | some j=>exact absurd (Nat.lt_trans m (ycN (ycG _ _) (B j b (hi b j v)).1)) (yc8 _)
 ·unfold zipH at e;split at e
  ·rename_i eb;cases e;subst eb;refine .inr ⟨ycG _ _,by rw [yab,E];exact zah (by omega),ts.map yaq,c2,?_,gl⟩;exact zfD ts
  ·split at e
   ·rename_i j v;obtain ⟨N,x',y',hx,hy,pr⟩:=B j b (hi b j v);obtain ⟨x,ex,rx⟩:=zgM L hx;obtain ⟨y,ey,ry⟩:=zgM d hy;rw [ex,ey] at e;cases e;exact .inr ⟨yc6 (ycN (ycG _ _) N),zah (show 2<=100000 by decide),[x',y'],.cons rx (.cons ry .nil),⟨_,pr,rfl,_,rfl⟩⟩
   ·exact .inl e
end
section
variable {P:yas} {w:yaS} {A:yaM} {E:yae->yag->Prop} {s:yag} {it d:Addr} {od:Obj} {es:Array DictEntry} {ep i:Nat}
theorem it_dictT {Q:yae->yag->Prop} (hd:(d == ybz)=false) (b:s.TypeIs (.ref d) "dict") (c:s.heap.get? d=some od) (a:od.data = .dict es ep)
  (e:Q (.ref s.heap.objs.size) { s with heap:=s.heap.push { cls := .type "dict_keyiterator",data := .fields #[.ref d,.int 0 0,.int es.size 0,.int ep 0] } }):wpAny (model P w) A (pyIter (.ref d)) Q E s:=by
 refine wpAny_pyIter_slot b F.slot_dict_iter (ybi F.slot_dict_iter b F.entry_dict_iter ?_ (F.args_dict_iter_1 _));unfold Builtin.«dict.__iter__» Builtin.Dict.dictSlotNone;refine yac (yac (ydA b ?_));refine (show wpAny _ _ (pure (yaq d)) _ _ s from yah ?_);show wpAny _ _ (ydB d >>= _) _ _ s;unfold ydB;rw [if_neg (by rw [hd];exact yaB)];refine yac (yah (yac (ybC c a (yac (yc4 c a ?_)))));refine yac (ybQ (yah ⟨_,rfl, "dict_keyiterator",_,⟨_,yan _ rfl,rfl⟩,F.slot_dict_keyiterator_next.lookup,?_⟩));simpa [yet] using e
theorem nx_dictT {Q:Option yae->yag->Prop} (f:s.heap.IsKeyIter it d i es.size ep) (c:s.heap.get? d=some od) (e:od.data = .dict es ep) (lt:i < es.size)
  (h:∀ h',h'.IsKeyIter it d (i+1) es.size ep->Heap.SameBut it s.heap h'->Q (some es[i].key) { s with heap:=h' }):wpAny (model P w) A (yd9 (.ref it)) Q E s:=by
 have b:=f.typeIs;obtain ⟨o,g,hc,hd⟩:=id f;unfold yd9;refine yac (ydK (ybB (name:=ycM "__next__") b ybY (ybi ybY b F.entry_dict_keyiterator_next ?_ (F.args_dict_keyiterator_next_1 _))));refine yac (yah (yac (yac ?_)))
 first | refine yac (ycs b (yah ?_)) | refine yac (yc5 b (yah ?_))
 refine yac (wpAny_fieldsOf g hd ?_);have own:Builtin.Dict_items.ownsTuple "dict_keyiterator" = false:=by decide
 simp only [own,yaR,if_false];show wpAny _ _ (if (yaq d == ycm)=true then _ else _) _ _ s;rw [if_neg (show ¬ ((yaq d == ycm)=true) from yaB)];refine yac (yah (yac (ybC c e ?_)));rw [if_neg (by simp)];refine yac (yah (yac (yc4 c e ?_)));rw [if_neg (by simp)];refine yah ?_;simp only [show ¬ ((i:Int) < 0) from by omega,if_false,yeC,ybx lt];refine yac ?_
 first | refine yac (ycs b (yah ?_)) | refine yac (yc5 b (yah ?_))
 refine yac (wpAny_isOneOf_keyiter b ?_);show wpAny _ _ (setField (.ref it) 1 (yet ((i:Int)+1)) >>= _) _ _ s;refine yac (wpAny_setField g hd (by simp) ?_);have a:(s.heap.update it (Obj.mapFields (·.setIfInBounds 1 (yet ((i:Int)+1))))).IsKeyIter it d (i+1) es.size ep :=
  ⟨_,ybR _ g (Obj.isFreed_of_fields (Obj.data_mapFields hd _)),(Obj.cls_mapFields ..).trans hc,by rw [Obj.data_mapFields hd];simp [yet]⟩
 refine yac (ya1 (yac (wpAny_isOneOf_keyiter (s:={ s with heap:=s.heap.update it (Obj.mapFields (·.setIfInBounds 1 (yet ((i:Int)+1)))) }) a.typeIs ?_)));refine (show wpAny _ _ (pure es[i].key) _ _ _ from ?_);exact yah (yah ⟨_,rfl,yah (h _ a (yfc ..))⟩)
theorem end_dictT {Q:Option yae->yag->Prop} (l:A.handled=none) (g:s.heap.IsKeyIter it d i es.size ep) (e:s.heap.get? d=some od) (f:od.data = .dict es ep) (j:es.size<=i)
  (k:∀ h',Heap.ExtBut it s.heap h'->Q none { s with heap:=h' }):wpAny (model P w) A (yd9 (.ref it)) Q E s:=by
 have c:=g.typeIs;obtain ⟨o,h,hc,hd⟩:=id g;unfold yd9;refine yac (ydK (ybB (name:=ycM "__next__") c ybY (ybi ybY c F.entry_dict_keyiterator_next ?_ (F.args_dict_keyiterator_next_1 _))));refine yac (yah (yac (yac ?_)))
 first | refine yac (ycs c (yah ?_)) | refine yac (yc5 c (yah ?_))
 refine yac (wpAny_fieldsOf h hd ?_);have own:Builtin.Dict_items.ownsTuple "dict_keyiterator" = false:=by decide
 simp only [own,yaR,if_false];show wpAny _ _ (if (yaq d == ycm)=true then _ else _) _ _ s;rw [if_neg (show ¬ ((yaq d == ycm)=true) from yaB)];refine yac (yah (yac (ybC e f ?_)));rw [if_neg (by simp)];refine yac (yah (yac (yc4 e f ?_)));rw [if_neg (by simp)];refine yah ?_;simp only [show ¬ ((i:Int) < 0) from by omega,if_false,yeC,Array.getElem?_eq_none j];refine yac ?_
 first | refine yac (ycs c (yah ?_)) | refine yac (yc5 c (yah ?_))
 show wpAny _ _ (setField (.ref it) 0 .none >>= _) _ _ s;refine yac (wpAny_setField h hd (by simp) ?_);show wpAny _ _ (newExc (.type "StopIteration") [] >>= _) _ _ _;refine yac ?_;simp only [newExc,newTuple];refine yac (ybQ ?_ (by size_fits));refine yac (m:=firstArgMember _ _) (wpAny_of_eq (a:=ycm) (by first | rfl | (simp only [firstArgMember];rfl)) ?_);refine ybQ ?_ (by size_fits);simp only [raiseNew];refine yac (wpAny_handled ?_);rw [show A.in1.handled=none from l];refine yac (yah (wpAny_throw ?_));refine yac (ydl (T := "StopIteration") (b:=true) ⟨_,yan _ rfl,rfl⟩ isSubtype_stop ?_);exact yah (k _ (((yfc ..).extBut.push _).push _))
end
section
variable {X:Cx} {pins:List (Addr×Obj)} {σ:St} {H:Hp} {s:yag}
theorem Inv.freezeT {a:Addr} {kvs:List (List Key×V)} {ob:Obj} (I:Inv X pins σ H s) (e:H a=some (.dT kvs)) (c:s.heap.get? a=some ob):Inv X pins σ (upd H a (.frz ob (.dT kvs))) s:=by
 have ok:=I.hok _ _ e;refine I.write (h':=s.heap) (t':=s.toks) (x:=a) (e:=a) (by rw [e];exact trivial) (.inl rfl) (λb u _ q=>q) ⟨_,c⟩ ⟨c,?_⟩;exact ok.stay (λb u _ q=>q) (λb q=>by rw [zaf (ne_of q e (λz=>nomatch z))];exact q) (λb xs q=>by rw [zaf (ne_of q e (λz=>nomatch z))];exact q)
end
def ItT (a:Addr) (ob:Obj) (kvs:List (List Key×V)):It:=⟨λi H=>H a=some (.frz ob (.dT kvs))/\i < kvs.length,λi H x H'=>H'=H/\∃ p b,kvs[i]? = some p/\x = .ref b/\H b=some (.tup (p.1.map kV)),λi H=>H a=some (.frz ob (.dT kvs))/\kvs.length<=i⟩
theorem frz_atT {P:yas} {w:yaS} {H:Hp} {h:Heap} {a:Addr} {ob:Obj} {kvs:List (List Key×V)} {es:Array DictEntry} {ep:Nat} (e:ob.data = .dict es ep) (x:ObjOk P w H h a (.frz ob (.dT kvs))) :
  h.get? a=some ob/\es.size=kvs.length/\∀ (i:Nat) (lt:i < es.size) (l2:i < kvs.length),∃ b,es[i].key = .ref b/\H b=some (.tup (kvs[i].1.map kV)):=by
 obtain ⟨g,z,hd,xs,f,o,n,m,j,c,d,r,p⟩:=x;rw [g] at j;cases j;rw [e] at d;cases d;have l:=f.length;have le:es.size=xs.length:=by rw [<- ybu,r,yab]
 refine ⟨g,le.trans l.symm,λi lt l2 => ?_⟩;have k:i < xs.length:=by omega
 obtain ⟨e1,e2,_⟩:=Paired.at f i l2 k;refine ⟨xs[i].2.1,?_,e2⟩;have:es[i]=entryOfKey (ycJ (zan P w)) xs[i]:=by
  have h1:es.toList[i]? = (xs.map (entryOfKey (ycJ (zan P w))))[i]?:=by rw [r]
  rw [ybT,ybx lt,yaf,yaa k] at h1;exact yaz h1
 rw [this];rfl
theorem ziF {P:yas} {w:yaS} {K:PySem.W.Frag} {F:Expr} (a it:Addr) {ob:Obj} {kvs:List (List Key×V)} {es:Array DictEntry} {ep:Nat} (f:ob.data = .dict es ep):Turn P w K F (ItT a ob kvs) [it] it (λi h=>h.IsKeyIter it a i es.size ep) where
 mem:=by simp
 obj:=λi h st b g=>by
  have e:b=it:=by simpa using g
  subst e;obtain ⟨o,e,c,d⟩:=st;exact ⟨o,e,λv z=>by rw [d] at z;cases z⟩
 keep:=λi h h' st k=>st.at λo e=>k it (by simp) o e
 item:=by
  intro X r hw A hc i pins s D H E I l st u;subst r hw A;obtain ⟨e,lt⟩:=u;obtain ⟨m,sz,C⟩:=frz_atT f (I.hok _ _ e);obtain ⟨B,q,M,n,t,y⟩:=l it (by simp);have lt':i < es.size:=by omega
  obtain ⟨b,J,p⟩:=C i lt' lt;refine nx_dictT st m f lt' λh' j L => ?_;rw [J];have N:Inv X pins D H { s with heap:=h' }:=I.turned (t':=s.toks) (λb o g e=>(L.2 b g).trans e) B q n t y;obtain ⟨o,G,c,d⟩:=id j;exact ⟨_,rfl,go_of (s:={ s with heap:=h' }) G c d (by decide) ⟨.ref b,H,N,rfl,⟨rfl,kvs[i],b,yaa lt,rfl,p⟩,j,λb g=>(l b g).1⟩⟩
 done:=by
  intro X r hw A hc i pins s D H E I l st u;subst r hw A;obtain ⟨e,lt⟩:=u;obtain ⟨m,sz,C⟩:=frz_atT f (I.hok _ _ e);obtain ⟨B,q,M,n,t,y⟩:=l it (by simp);exact end_dictT (I.ok.hd hc) st m f (by omega) λh' p=>⟨rfl,I.turned (t':=s.toks) (λb o g e=>p b o g e) B q n t y⟩
 self:=λ_ _ _ _ _ st h=>wpAny_pyIter_keyiter st h
def iDictT (tl:TE):TI:=λσ H R=>tl σ H λx H1=>∃ a kvs,x = .ref a/\H1 a=some (.dT kvs)/\∀ ob,R (ItT a ob kvs) (upd H1 a (.frz ob (.dT kvs)))
theorem pi_dictT {X:Cx} {n l:Expr} {k:TE} (u:PE X l k):PI X n l (iDictT k):=by
 intro pins s B H R I h;refine thn (u pins s B H _ I h) λv f j => ?_;obtain ⟨x,y,m,p,a,kvs,ex,e,q⟩:=j;subst ex;obtain rfl:v=yaq a:=p;obtain ⟨z,hd,xs,C,ob,es,ep,g,c,d,r,D⟩:=(show ObjOk X.prog X.w y f.heap a (.dT kvs) from m.hok _ _ e);refine it_dictT hd ⟨_,g,c.1⟩ g d ?_;have i:=m.freezeT e g;refine ⟨f.heap.objs.size,[f.heap.objs.size],_,_,_,rfl,i.kept (t':=f.toks) λb o e=>yad _ e,ziF a _ d,⟨_,yan _ rfl,rfl,rfl⟩,λb A => ?_,q ob⟩;have t:b=f.heap.objs.size:=by simpa using A
 subst t;exact i.fpOk (yaj _) (i.hok.fresh (yaj _))
section
variable {P:yas} {w:yaS} {A:yaM} {E:yae->yag->Prop} {s:yag}
theorem zhf {v:yae} {T id:String} {B:Builtin} {n:Int} {Q:Int->yag->Prop} (d:∀ s:yag,s.TypeIs v T) (a:Slot T "__hash__" id) (b:entryFor table id=some B) (args:argsOk id ⟨[v],[]⟩) (f : [v].any Value.onHeap=false)
  (c:B ⟨[v],[]⟩=retInt n) (e : -(2:Int) ^ 63<=n/\n < 2 ^ 63) (h1:(n == -1)=false) (h:Q n { s with toks:=s.toks+1 }):wpAny (model P w) A (pyHashByItsType v) Q E s:=by
 unfold pyHashByItsType;refine yac ?_;rw [cRoomFor,if_neg (by rw [f];exact yaB)];refine yah (yac (yci (d _) a.lookup ?_));show wpAny _ _ (if (some (Value.builtin id) == some ycm)=true then _ else _) Q E s;rw [if_neg (by rw [beq_builtin_none];exact yaB)];refine yac (yci (d _) a.lookup ?_);show wpAny _ _ (callSpecialIfBoundUnlessNone? v "__hash__" _ >>= _) Q E s;refine yac (wpAny_callSpecialIfBoundUnlessNone?_slot (d _) a (ybi a (d _) b ?_ args));rw [c];refine (show wpAny _ _ (do ret (<- mkInt n)) _ _ s from wpAny_ret_mkInt ?_);show wpAny _ _ (if (decide (-(2:Int) ^ 63<=n)&&decide (n < 2 ^ 63))=true then _ else _) Q E _;rw [if_pos (by rw [decide_eq_true e.1,decide_eq_true e.2];rfl),h1];exact yah h
theorem hash_bool {b:Bool} {Q:Int->yag->Prop} (h:Q (hashInt (if b then 1 else 0)) { s with toks:=s.toks+1 }):wpAny (model P w) A (pyHash (.bool b)) Q E s:=by
 cases b with
 | false=>exact zhf (T := "bool") (n:=0) (λ_=>rfl) F.slot_bool_hash entry_int_hash (args_int_hash _) rfl (by rfl) (by decide) (by decide) (by exact h)
 | true=>exact zhf (T := "bool") (n:=1) (λ_=>rfl) F.slot_bool_hash entry_int_hash (args_int_hash _) rfl (by rfl) (by decide) (by decide) (by exact h)
theorem hash_none {Q:Int->yag->Prop} (h:Q 0xFCA86420 { s with toks:=s.toks+1 }):wpAny (model P w) A (pyHash .none) Q E s :=
 zhf (T := "NoneType") (n:=0xFCA86420) (λ_=>rfl) F.slot_NoneType_hash F.entry_NoneType_hash (F.args_NoneType_hash_1 _) rfl (by rfl) (by decide) (by decide) h
end
abbrev KeyN:=Option Key
def zeF:KeyN->yae->Bool
 | some (.inl k),v=>Value.isInt k v || v == .bool true&&k == 1 || v == .bool false&&k == 0
 | some (.inr x),v=>ycH x v
 | none,v=>v == .none
theorem zaZ:∀ {k:KeyN} {v:yae},zeF k v=true->(∃ i t,k=some (ycy i)/\v=ycI i t)\/(∃ x t,k=some (ybs x)/\v=ydj x t)\/(∃ b:Bool,k=some (ycy (if b then 1 else 0))/\v = .bool b)\/(k=none/\v = .none)
 | some (.inl i),v,h=>by
  simp only [zeF,Bool.or_eq_true,ya9,beq_iff_eq] at h;rcases h with (h | ⟨rfl,rfl⟩) | ⟨rfl,rfl⟩
  ·obtain ⟨t,e⟩:=Value.isInt_shape (k:=i) (v:=v) h;exact .inl ⟨i,t,rfl,e⟩
  ·exact .inr (.inr (.inl ⟨true,rfl,rfl⟩))
  ·exact .inr (.inr (.inl ⟨false,rfl,rfl⟩))
 | some (.inr x),v,h=>by
  obtain ⟨t,e⟩:=Value.isStrOf_shape (x:=x) (v:=v) h;exact .inr (.inl ⟨x,t,rfl,e⟩)
 | none,v,h => .inr (.inr (.inr ⟨rfl,by simpa [zeF] using h⟩))
def keyHN (w:yaS):KeyN->Int
 | some k=>keyH w k
 | none=>0xFCA86420
theorem zhP (a b:Int):decide ((some (ycy a):KeyN)=some (ycy b))=(a == b):=by
 by_cases e:a=b
 ·subst e;simp
 ·have h:¬ (some (ycy a):KeyN)=some (ycy b):=λq=>e (Sum.inl.inj (yaz q));rw [decide_eq_false h];exact (beq_eq_false_iff_ne.mpr e).symm
theorem isI_rr (a b:Str):decide ((some (ybs a):KeyN)=some (ybs b))=(a == b):=by
 by_cases e:a=b
 ·subst e;simp
 ·have h:¬ (some (ybs a):KeyN)=some (ybs b):=λq=>e (Sum.inr.inj (yaz q));rw [decide_eq_false h];exact (beq_eq_false_iff_ne.mpr e).symm
def mixN (prog:yas) (w:yaS):PySem.KeyKind prog w KeyN where
 is:=zeF
 hash:=keyHN w
 inj:=λv a b ha hb=>by
  rcases zaZ ha with ⟨i,t,rfl,rfl⟩ | ⟨x,t,rfl,rfl⟩ | ⟨c,rfl,rfl⟩ | ⟨rfl,rfl⟩ <;> rcases zaZ hb with ⟨j,u,rfl,e⟩ | ⟨y,u,rfl,e⟩ | ⟨d,rfl,e⟩ | ⟨rfl,e⟩ <;> cases e <;> rfl
 byValue:=λk v h=>by
  rcases zaZ h with ⟨i,t,rfl,rfl⟩ | ⟨x,t,rfl,rfl⟩ | ⟨c,rfl,rfl⟩ | ⟨rfl,rfl⟩ <;> rfl
 pyHash:=λhv h=>by
  rcases zaZ hv with ⟨i,t,rfl,rfl⟩ | ⟨x,t,rfl,rfl⟩ | ⟨c,rfl,rfl⟩ | ⟨rfl,rfl⟩
  ·exact wpAny_pyHash_int h
  ·exact wpAny_pyHash_str h
  ·exact hash_bool h
  ·exact hash_none h
 eqBool:=λhu hv h=>by
  rcases zaZ hu with ⟨i,t,rfl,rfl⟩ | ⟨x,t,rfl,rfl⟩ | ⟨c,rfl,rfl⟩ | ⟨rfl,rfl⟩ <;> rcases zaZ hv with ⟨j,u,rfl,rfl⟩ | ⟨y,u,rfl,rfl⟩ | ⟨d,rfl,rfl⟩ | ⟨rfl,rfl⟩
  ·rw [zhP] at h;exact SeqAt.EqAt.int_int i t j u _ _ _ _ h
  ·simp only [reduceCtorEq,ybD,decide_false] at h;exact yfm i t y u _ _ _ _ h
  ·rw [zhP] at h;exact SeqAt.EqAt.int_bool i t d _ _ _ _ h
  ·simp only [reduceCtorEq,ybD,decide_false] at h;exact SeqAt.EqAt.int_none i t _ _ _ _ h
  ·simp only [reduceCtorEq,ybD,decide_false] at h;exact yfn x t j u _ _ _ _ h
  ·rw [isI_rr] at h;exact SeqAt.EqAt.str_str x t y u _ _ _ _ h
  ·simp only [reduceCtorEq,ybD,decide_false] at h;exact SeqAt.EqAt.str_bool x t d _ _ _ _ h
  ·simp only [reduceCtorEq,ybD,decide_false] at h;exact SeqAt.EqAt.str_none x t _ _ _ _ h
  ·rw [zhP] at h;exact SeqAt.EqAt.bool_int c j u _ _ _ _ h
  ·simp only [reduceCtorEq,ybD,decide_false] at h;exact SeqAt.EqAt.bool_str c y u _ _ _ _ h
  ·rw [zhP] at h;exact SeqAt.EqAt.bool_bool c d _ _ _ _ (by cases c <;> cases d <;> exact h)
  ·simp only [reduceCtorEq,ybD,decide_false] at h;exact SeqAt.EqAt.bool_none c _ _ _ _ h
  ·simp only [reduceCtorEq,ybD,decide_false] at h;exact SeqAt.EqAt.none_int j u _ _ _ _ h
  ·simp only [reduceCtorEq,ybD,decide_false] at h;exact SeqAt.EqAt.none_str y u _ _ _ _ h
  ·simp only [reduceCtorEq,ybD,decide_false] at h;exact SeqAt.EqAt.none_bool d _ _ _ _ h
  ·exact ydu _ _ _ _ _ (by simpa using h)
 «strs»:=λk x t v h=>by
  rcases zaZ h with ⟨i,u,rfl,e⟩ | ⟨y,u,rfl,e⟩ | ⟨c,rfl,e⟩ | ⟨rfl,e⟩ <;> cases e;exact (zan prog w).strs (.inr x) x t v (zeu prog w x t)
theorem zgS {k:Key} {v:yae} (h:keyIs k v=true):zeF (some k) v=true:=by
 rcases zaB h with ⟨i,t,rfl,rfl⟩ | ⟨x,t,rfl,rfl⟩
 ·simp [zeF,Value.isInt]
 ·simp [zeF,ycH]
theorem pairsN {P:yas} {w:yaS} {es:List DictEntry} {kvs:List (Key×yae)} (h:Pairs (zan P w) es kvs):Pairs (mixN P w) es (kvs.map λp=>(some p.1,p.2)):=by
 induction h with
 | nil=>exact .nil
 | cons h1 h2 _ a=>exact .cons (zgS h1) h2 a
theorem dictN {P:yas} {w:yaS} {h:Heap} {a:Addr} {kvs:List (Key×yae)} (d:h.DictOf (zan P w) a kvs):h.DictOf (mixN P w) a (kvs.map λp=>(some p.1,p.2)):=by
 obtain ⟨o,es,ep,g,c,hd,b,i,l⟩:=d;refine ⟨o,es,ep,g,c,hd,λe j => ?_,pairsN i,?_⟩
 ·obtain ⟨k,h1,h2⟩:=b e j;exact ⟨some k,zgS h1,h2⟩
 ·rw [yaU];show (kvs.map λp=>(some p.1:KeyN)).Nodup;have e:kvs.map (λp=>(some p.1:KeyN))=(kvs.map (·.1)).map some:=by simp
  rw [e];exact l.map some λ_ _ f z=>f (yaz z)
theorem valN (kvs:List (Key×yae)) (k:Key):yel (kvs.map λp=>((some p.1:KeyN),p.2)) (some k)=yel kvs k:=by
 induction kvs with
 | nil=>rfl
 | cons p r a =>
  by_cases e:p.1=k
  ·simp [yel,e]
  ·have e2:¬ (some p.1:KeyN)=some k:=λz=>e (yaz z);unfold yel at a ⊢;rw [yaw,ybn (by simpa using e2),ybn (by simpa using e)];exact a
theorem valN0 (kvs:List (Key×yae)):yel (kvs.map λp=>((some p.1:KeyN),p.2)) none=none:=by
 induction kvs with
 | nil=>rfl
 | cons p r a =>
  unfold yel at a ⊢;rw [yaw,ybn (by simp)];exact a
section
variable {P:yas} {w:yaS} {A:yaM} {E:yae->yag->Prop} {s:yag} {d t:Addr}
theorem may_not {ks:List Key} {stored:List yae} {Q:Bool->yag->Prop} (d:(ycJ (zan P w)).is s.heap ks t) (b:∀ v∈stored,(∃ i u,v=ycI i u)\/∃ x u,v=ydj x u) (h:Q false s):wpAny (model P w) A (tableMayTell (.ref t) stored) Q E s:=by
 unfold tableMayTell;split
 ·exact yah h
 ·refine yac ((ycJ (zan P w)).quiet d ?_);simp only [ye1,yaR,if_false];refine yac ?_;refine ydk _ (λrest r a=>a=s/\r=(none,())/\∀ v∈rest,(∃ i u,v=ycI i u)\/∃ x u,v=ydj x u) _ ?_ ?_ _ _ ⟨rfl,rfl,b⟩
  ·rintro x rest r a ⟨rfl,rfl,c⟩;have q:eqIsQuiet 8 x=pure true:=by rcases c x yax with ⟨i,u,rfl⟩ | ⟨y,u,rfl⟩ <;> rfl
   rw [q];refine yac (yah ?_);simp only [ye1,yaR,if_false];exact yah ⟨rfl,rfl,λv e=>c v (yal _ e)⟩
  ·rintro r a ⟨rfl,rfl,_⟩;exact yah h
theorem find_tup {ks:List Key} {o:Obj} {es:Array DictEntry} {ep:Nat} {items:Array yae} {Q:Option Nat->yag->Prop} (B:A.units < cLine) (D:(ycJ (zan P w)).is s.heap ks t) (z:s.heap.IsTuple t items) (m:s.heap.get? d=some o) (hd:o.data = .dict es ep) (keys:KeysOf (zan P w) es) (F:Q none s) (h:Int) :
  wpAny (model P w) A (dictFind d (.ref t) h) Q E s:=by
 have p:∀ e∈es,(∃ i u,e.key=ycI i u)\/∃ x u,e.key=ydj x u:=λe n=>by
  obtain ⟨k,h1,_⟩:=keys e n;rcases zaB h1 with ⟨i,u,_,q⟩ | ⟨x,u,_,q⟩
  ·exact .inl ⟨i,u,q⟩
  ·exact .inr ⟨x,u,q⟩
 have j:¬ (es.any λe=>e.key == yaq t&&e.hash != h)=true:=by
  rw [<- Array.any_toList,yd1];rintro ⟨e,r,hc⟩;rcases p e (ydN.mp r) with ⟨i,u,q⟩ | ⟨x,u,q⟩ <;> rw [q] at hc <;> simp at hc
 unfold dictFind
 try with_reducible refine ya1 ?_
 refine yac (ybC m hd ?_);dsimp only;generalize I:placesWithHash es.size (λi=>es[i]?.map (·.hash)) h=a;rw [if_neg (show ¬ ((yaq t :: a.filterMap (λi=>es[i]?.map (·.key))).all yeL)=true by simp [yeL])];rw [if_neg j];have g:∀ v∈a.filterMap (λi=>es[i]?.map (·.key)),(∃ i u,v=ycI i u)\/∃ x u,v=ydj x u:=by
  intro v G;obtain ⟨i,_,hi⟩:=yco.mp G;cases f:es[i]? with
  | none=>rw [f] at hi;cases hi
  | some e =>
   rw [f] at hi;obtain rfl:e.key=v:=by simpa using hi
   exact p e (Array.mem_of_getElem? f)
 by_cases c:((a.filterMap (λi=>es[i]?.map (·.key))) == [yaq t])=true
 ·exfalso;have e1:=eq_of_beq c;rcases g (.ref t) (by rw [e1];simp) with ⟨i,u,q⟩ | ⟨x,u,q⟩ <;> cases q
 ·rw [if_neg c];refine yac (may_not D g ?_);rw [if_neg (by simp)];refine yac ?_;refine ydk _ (λrest b l=>l=s/\b=(none,none)) _ ?_ ?_ _ _ ⟨rfl,rfl⟩
  ·rintro x rest b l ⟨rfl,rfl⟩;cases n:es[x]? with
   | none=>exact yah ⟨rfl,rfl⟩
   | some e =>
    dsimp only;by_cases C:(e.hash == h)=true
    ·rw [if_pos C];have H:SeqAt.EqAt A l e.key (.ref t) false:=by
      rcases p e (Array.mem_of_getElem? n) with ⟨i,u,q⟩ | ⟨y,u,q⟩
      ·rw [q];exact SeqAt.EqAt.int_tuple i u z B
      ·rw [q];exact SeqAt.EqAt.str_tuple y u z B
     refine yac (yc4 m hd (yac (H _ _ _ _ (yac (yc4 m hd ?_)))));show wpAny _ _ (if (ep != ep)=true then _ else _) _ E _;rw [if_neg (by simp)];simp only [yaR,if_false,ycR];refine yac (yed ?_)
     first
      | exact yah ⟨rfl,rfl⟩
      | exact yac (yah (yah ⟨rfl,rfl⟩))
    ·rw [if_neg C];exact yah ⟨rfl,rfl⟩
  ·rintro b l ⟨rfl,rfl⟩;exact yah F
theorem in_tup {ks:List Key} {kvs:List (Key×yae)} {items:Array yae} {Q:yae->yag->Prop} (f:A.units+1 < cLine) (e:(ycJ (zan P w)).is s.heap ks t) (i:s.heap.IsTuple t items) (hd:(d == ybz)=false) (b:s.heap.DictOf (zan P w) d kvs) (h:∀ j,Q (.bool false) { s with toks:=j }) :
  wpAny (model P w) A (yba .In (.ref t) (.ref d)) Q E s:=by
 show wpAny _ _ (do return .bool (<- contains (.ref d) (.ref t))) Q E s;refine yac ?_;unfold contains
 try with_reducible refine ya1 ?_
 refine yac (yci b.typeIs slot_dict_contains.lookup ?_);show wpAny _ _ (if (some (Value.builtin "dict.__contains__") == some ycm)=true then _ else _) _ E s;rw [if_neg (by rw [beq_builtin_none];exact yaB)];refine yac (wpAny_callSpecialUnlessNone?_slot (name:=ycM "__contains__") b.typeIs yfu
  (ybi yfu b.typeIs entry_dict_contains ?_ (args_dict_contains _ _)))
 show wpAny _ _ (dictGet d (.ref t) >>= _) _ _ s;refine yac ?_;unfold dictGet
 try with_reducible refine ya1 ?_
 obtain ⟨o,es,ep,g,c,a,keys,_⟩:=id b;refine yac ((ycJ (zan P w)).pyHash (ycp f) e ?_);refine yac (find_tup (A:=A.in1) (s:={ s with toks:=s.toks+(ycJ (zan P w)).draws ks }) (ks:=ks) (by exact f) e i g a keys ?_ _);refine yah ?_;show wpAny _ _ (Builtin.Dict.pendingKey? d (.ref t) >>= _) _ _ _;exact yac (wpAny_pendingKey_other hd (yah ⟨_,rfl,ybj (yah (h _))⟩))
end
def DInX (K:PySem.W.Frag) (H:Hp) (a:Addr) (y:V) (r:Bool):Prop :=
 ∃ kvs:List (Key×V),Rd H a (.dK kvs)/\((∃ k,y=kV k/\r=(valV kvs k).isSome)\/(∃ b:Bool,y = .bl b/\r=(valV kvs (.inl (if b then 1 else 0))).isSome)\/(y = .non/\r=false)\/∃ (t:Addr) (k:List Key),y = .ref t/\H t=some (.tup (k.map kV))/\r=false)
def tDInX (K:PySem.W.Frag) (ty td:TE):TE:=λσ H Q=>ty σ H λy H1=>td σ H1 λx H2=>∃ a r,x = .ref a/\DInX K H2 a y r/\Q (.bl r) H2
section
variable {X:Cx} {K:PySem.W.Frag}
theorem pc_dinX {i o:Expr} {q B:TE} (v:X.A.units+1 < cLine) (hi:PE X i q) (F:PE X o B):PC X .In i o (tDInX K q B):=by
 intro pins s D H Q I h;refine thn (hi pins s D H _ I h) λp M ⟨y,N,V,g,O⟩=>thn (F pins M D N _ V O) λu S m => ?_;obtain ⟨x,f,c,R,a,r,ex,⟨kvs,j,E⟩,l⟩:=m;subst ex;obtain rfl:u=yaq a:=R;rcases E with ⟨k,rfl,rfl⟩ | ⟨b,rfl,rfl⟩ | ⟨rfl,rfl⟩ | ⟨t,k,rfl,C,rfl⟩
 ·exact d_in v c (.inl ⟨kvs,k,j,rfl,rfl⟩) g λW L=>⟨.bl _,f,L,rfl,l⟩
 ·obtain rfl:p=ydm b:=g;obtain ⟨z,hd,vs,d,dd⟩:=dk_rd c.hok j;refine wpAny_in_of (knd:=mixN X.prog X.w) (k:=some (.inl (if b then 1 else 0))) (by cases b <;> rfl) hd (dictN dd).mapOf ?_;rw [valN,<- (d.val _).isSome_eq];exact ⟨.bl _,f,c.tok _,rfl,l⟩
 ·obtain rfl:p=ycm:=g;obtain ⟨z,hd,vs,d,dd⟩:=dk_rd c.hok j;refine wpAny_in_of (knd:=mixN X.prog X.w) (k:=none) rfl hd (dictN dd).mapOf ?_;rw [valN0];exact ⟨.bl _,f,c.tok _,rfl,l⟩
 ·obtain rfl:p=yaq t:=g;obtain ⟨z,hd,vs,d,dd⟩:=dk_rd c.hok j;obtain ⟨_,G,r,o,h1,h2,n,U⟩:=(show ObjOk X.prog X.w f S.heap t (.tup (k.map kV)) from c.hok t _ C);exact in_tup v (zdq c.hok C) ⟨o,h1,h2,n,U⟩ hd dd λJ=>⟨.bl _,f,c.kept (t':=J) λ_ _ e=>e,rfl,l⟩
end
end L2
namespace K06
open PySem L2 PySem.Spec PyProof.Rows PySem.NumText
variable {P:yas} {w:yaS} {K:PySem.W.Frag} {mg:Str->Option yae} {base:Heap}
theorem scM {N P:List Str} {sc:Scope} (h:(sc.kind == .function && !sc.isCoroutine && !sc.isGenerator&&decide N.Nodup&&decide (N.take P.length=P)&&P.all (λx=>sc.names.lookup x == some .local || sc.names.lookup x == some .cell)&&sc.names.all λy => !(y.2 == .free))=true):FnScope N P sc:=by
 simp only [ya9,yaX,beq_iff_eq,Bool.or_eq_true,Bool.not_eq_true',decide_eq_true_eq] at h;obtain ⟨⟨⟨⟨⟨⟨a,b⟩,c⟩,d⟩,e⟩,f⟩,g⟩:=h;exact ⟨a,b,c,d,e,f,λy i z=>by have:=g y i;rw [z] at this;exact absurd this (by decide)⟩
def top (i:Nat):Stmt:=PySem.Challenge.pw_planstore_k06_makes_told.main.body.getD i (.Pass ⟨0,0,0,0⟩)
abbrev zdL:Stmt:=top 11
abbrev zdF:Stmt:=top 12
abbrev zet:Stmt:=top 13
abbrev zdw:Stmt:=top 14
abbrev ze3:Stmt:=top 16
abbrev zdN:Stmt:=top 17
abbrev zbK:Stmt:=top 18
abbrev zaN:Stmt:=za5 (top 19) 0
abbrev zci:Stmt:=za5 (top 19) 1
abbrev zbn:Stmt:=za5 (top 19) 2
abbrev zbi:Stmt:=za5 (top 19) 3
abbrev zbl:Stmt:=za5 (top 19) 4
abbrev zbv:Stmt:=za5 (top 19) 5
abbrev zbV:Stmt:=za5 (top 19) 6
abbrev zbD:Stmt:=za5 (top 19) 7
abbrev zbw:Stmt:=za5 (top 19) 8
abbrev zf6:Stmt:=top 23
abbrev zeX:Stmt:=top 24
abbrev zc4:Stmt:=top 25
abbrev zb9:Stmt:=top 26
abbrev zb6:Stmt:=top 27
abbrev zcr:Stmt:=top 28
abbrev zcg:Stmt:=top 29
abbrev zcz:Stmt:=top 30
abbrev zcj:Stmt:=top 31
abbrev zaJ:Stmt:=za5 (top 32) 0
abbrev za2:Stmt:=za5 (top 32) 1
abbrev za6:Stmt:=za5 (top 32) 2
abbrev zbh:Stmt:=za5 (top 32) 4
abbrev zbC:Stmt:=za5 (top 32) 6
abbrev zcb:Stmt:=za5 (top 32) 7
abbrev zbU:Stmt:=top 34
abbrev zb7:Stmt:=top 35
abbrev zcp:Stmt:=top 36
abbrev zcc:Stmt:=top 37
abbrev zcw:Stmt:=top 38
abbrev zdO:Stmt:=top 39
abbrev zcu:Stmt:=top 40
abbrev zck:Stmt:=top 41
abbrev zca:Stmt:=top 42
abbrev zb8:Stmt:=top 43
abbrev zbX:Stmt:=top 44
abbrev zba:Stmt:=top 45
abbrev zbm:Stmt:=top 46
abbrev zb5:Stmt:=top 47
abbrev zcx:Stmt:=top 48
abbrev zcY:Stmt:=top 49
abbrev s_law:Stmt:=top 50
set_option genInjectivity false in
set_option genSizeOf false in
structure Txt (K:PySem.W.Frag) (mg:Str->Option yae) where
 D_KINDS:Addr
 c_KINDS:mg "KINDS" = some (.ref D_KINDS)
 t_KINDS:∃ (o:Obj) (its:Array yae) (n:Nat),K.lookup D_KINDS=some o/\o.cls = .type "tuple"/\o.data = .seq its n/\its.size<=yaO/\Vals [.str "number",.str "word"] its.toList
 C_Schema:Addr
 c_Schema:mg "Schema" = some (.ref C_Schema)
 l_Schema:Cls K C_Schema
 n_Schema_tables:NoAttr K C_Schema "tables"
 n_Schema_orders:NoAttr K C_Schema "orders"
 n_Schema_columns:NoAttr K C_Schema "columns"
 C_Makes:Addr
 c_Makes:mg "Makes" = some (.ref C_Makes)
 l_Makes:Cls K C_Makes
 n_Makes_schema:NoAttr K C_Makes "schema"
 n_Makes_last:NoAttr K C_Makes "last"
 n_Makes_still_told:NoAttr K C_Makes "still_told"
 n_Makes_stretches:NoAttr K C_Makes "stretches"
 n_Makes_last_written:NoAttr K C_Makes "last_written"
 is_whole:Fx K mg "is_whole" zdL ["thing"]
 has_only:Fx K mg "has_only" zdF ["signs", "text"]
 is_name:Fx K mg "is_name" zet ["thing"]
 is_value:Fx K mg "is_value" zdw ["kind", "thing"]
 lies_in:Fx K mg "lies_in" ze3 ["make", "stretch"]
 row_then:Fx K mg "row_then" zdN ["stretches", "make"]
 order_of_rows:Fx K mg "order_of_rows" zbK ["schema", "table", "column", "rows"]
 Makes___init__:MxD K C_Makes "__init__" "Makes.__init__" zaN
 Makes_write:Mx K C_Makes "write" "Makes.write" zci ["self", "table", "key", "row"]
 Makes_need_make:Mx K C_Makes "need_make" "Makes.need_make" zbn ["self", "make"]
 Makes_need_table:Mx K C_Makes "need_table" "Makes.need_table" zbi ["self", "make", "table"]
 Makes_last_make:Mx K C_Makes "last_make" "Makes.last_make" zbl ["self"]
 Makes_add_make:Mx K C_Makes "add_make" "Makes.add_make" zbv ["self", "writes"]
 Makes_row_at:Mx K C_Makes "row_at" "Makes.row_at" zbV ["self", "make", "table", "key"]
 Makes_rows_at:Mx K C_Makes "rows_at" "Makes.rows_at" zbD ["self", "make", "table"]
 Makes_order_at:Mx K C_Makes "order_at" "Makes.order_at" zbw ["self", "make", "table", "column"]
 few_of:Fx K mg "few_of" zf6 ["thing", "least"]
 pair_of:Fx K mg "pair_of" zeX ["thing"]
 need_name:Fx K mg "need_name" zc4 ["thing"]
 need_unlike:Fx K mg "need_unlike" zb9 ["things"]
 column_from:Fx K mg "column_from" zb6 ["thing"]
 table_from:Fx K mg "table_from" zcr ["thing"]
 tables_from:Fx K mg "tables_from" zcg ["thing"]
 order_from:Fx K mg "order_from" zcz ["tables", "thing"]
 orders_from:Fx K mg "orders_from" zcj ["tables", "thing"]
 Schema___init__:MxD K C_Schema "__init__" "Schema.__init__" zaJ
 Schema_table_names:Mx K C_Schema "table_names" "Schema.table_names" za2 ["self"]
 Schema_columns_of:Mx K C_Schema "columns_of" "Schema.columns_of" za6 ["self", "table"]
 Schema_has_order:Mx K C_Schema "has_order" "Schema.has_order" zbh ["self", "table", "column"]
 Schema_is_key:Mx K C_Schema "is_key" "Schema.is_key" zbC ["self", "table", "thing"]
 Schema_told:Mx K C_Schema "told" "Schema.told" zcb ["self"]
 _law_cell_at:Fx K mg "_law_cell_at" zbU ["_law_script", "_law_k"]
 _law_stream:Fx K mg "_law_stream" zb7 ["_law_cell", "_law_many"]
 _law_names:Fx K mg "_law_names" zcp ["_law_number", "_law_many"]
 _law_schema:Fx K mg "_law_schema" zcc ["_law_cell"]
 _law_value:Fx K mg "_law_value" zcw ["_law_kind", "_law_number"]
 _law_row:Fx K mg "_law_row" zdO ["_law_table", "_law_numbers"]
 _law_first:Fx K mg "_law_first" zcu ["_law_told", "_law_cell"]
 _law_handed:Fx K mg "_law_handed" zck ["_law_model"]
 _law_writes:Fx K mg "_law_writes" zca ["_law_told", "_law_model", "_law_cell"]
 _law_behind:Fx K mg "_law_behind" zb8 ["_law_model", "_law_writes_here"]
 _law_ordered:Fx K mg "_law_ordered" zbX ["_law_told", "_law_table"]
 _law_table_right:Fx K mg "_law_table_right" zba ["_law_makes", "_law_told", "_law_make", "_law_table", "_law_rows"]
 _law_make_right:Fx K mg "_law_make_right" zbm ["_law_makes", "_law_told", "_law_make", "_law_model"]
 _law_no_row:Fx K mg "_law_no_row" zb5 ["_law_makes", "_law_told", "_law_make", "_law_model"]
 _law_begun:Fx K mg "_law_begun" zcx ["_law_script", "_law_k"]
 _law_step:Fx K mg "_law_step" zcY ["_law_scene", "_law_cell"]
 law:Fx K mg "law" s_law ["_law_script"]
 k_Schema:Mk K C_Schema Schema___init__.f
 k_Makes:Mk K C_Makes Makes___init__.f
 b_all:mg "all" = none
 b_bool:mg "bool" = none
 b_dict:mg "dict" = none
 b_enumerate:mg "enumerate" = none
 b_int:mg "int" = none
 b_isinstance:mg "isinstance" = none
 b_len:mg "len" = none
 b_list:mg "list" = none
 b_range:mg "range" = none
 b_reversed:mg "reversed" = none
 b_set:mg "set" = none
 b_sorted:mg "sorted" = none
 b_str:mg "str" = none
 b_tuple:mg "tuple" = none
 b_zip:mg "zip" = none
 u_GREATEST:yae
 c_GREATEST:mg "GREATEST" = some u_GREATEST
 r_GREATEST:RelV (.int 1000000000) u_GREATEST
 u_LETTERS:yae
 c_LETTERS:mg "LETTERS" = some u_LETTERS
 r_LETTERS:RelV (.str "abcdefghijklmnopqrstuvwxyz") u_LETTERS
 u_LONGEST_NAME:yae
 c_LONGEST_NAME:mg "LONGEST_NAME" = some u_LONGEST_NAME
 r_LONGEST_NAME:RelV (.int 8) u_LONGEST_NAME
 u_MOST:yae
 c_MOST:mg "MOST" = some u_MOST
 r_MOST:RelV (.int 4) u_MOST
theorem zhn:FnScope ["thing"] ["thing"] (zaj zdL):=scM (by decide +kernel)
theorem zhs:FnScope ["signs", "text"] ["signs", "text"] (zaj zdF):=scM (by decide +kernel)
theorem ziH:FnScope ["thing"] ["thing"] (zaj zet):=scM (by decide +kernel)
theorem zg6:FnScope ["kind", "thing"] ["kind", "thing"] (zaj zdw):=scM (by decide +kernel)
theorem ziz:FnScope ["make", "stretch"] ["make", "stretch"] (zaj ze3):=scM (by decide +kernel)
theorem sc_row_then:FnScope ["stretches", "make", "stretch"] ["stretches", "make"] (zaj zdN):=scM (by decide +kernel)
theorem sc_order_of_rows:FnScope ["schema", "table", "column", "rows", "names", "place"] ["schema", "table", "column", "rows"] (zaj zbK):=scM (by decide +kernel)
theorem sc_Makes___init__:FnScope ["self", "schema", "rows", "table", "first", "row"] ["self", "schema", "rows"] (zaj zaN):=scM (by decide +kernel)
theorem sc_Makes_write:FnScope ["self", "table", "key", "row", "stretches"] ["self", "table", "key", "row"] (zaj zci):=scM (by decide +kernel)
theorem zdl:FnScope ["self", "make"] ["self", "make"] (zaj zbn):=scM (by decide +kernel)
theorem zc0:FnScope ["self", "make", "table"] ["self", "make", "table"] (zaj zbi):=scM (by decide +kernel)
theorem zdp:FnScope ["self"] ["self"] (zaj zbl):=scM (by decide +kernel)
theorem sc_Makes_add_make:FnScope ["self", "writes", "table", "key", "row"] ["self", "writes"] (zaj zbv):=scM (by decide +kernel)
theorem ze0:FnScope ["self", "make", "table", "key"] ["self", "make", "table", "key"] (zaj zbV):=scM (by decide +kernel)
theorem sc_Makes_rows_at:FnScope ["self", "make", "table", "stretches", "rows"] ["self", "make", "table"] (zaj zbD):=scM (by decide +kernel)
theorem zdA:FnScope ["self", "make", "table", "column"] ["self", "make", "table", "column"] (zaj zbw):=scM (by decide +kernel)
theorem sc_few_of:FnScope ["thing", "least"] ["thing", "least"] (zaj zf6):=scM (by decide +kernel)
theorem ziP:FnScope ["thing"] ["thing"] (zaj zeX):=scM (by decide +kernel)
theorem zgj:FnScope ["thing"] ["thing"] (zaj zc4):=scM (by decide +kernel)
theorem zfj:FnScope ["things"] ["things"] (zaj zb9):=scM (by decide +kernel)
theorem sc_column_from:FnScope ["thing", "pair"] ["thing"] (zaj zb6):=scM (by decide +kernel)
theorem sc_table_from:FnScope ["thing", "pair", "columns"] ["thing"] (zaj zcr):=scM (by decide +kernel)
theorem sc_tables_from:FnScope ["thing", "tables"] ["thing"] (zaj zcg):=scM (by decide +kernel)
theorem sc_order_from:FnScope ["tables", "thing", "pair", "order", "name", "columns"] ["tables", "thing"] (zaj zcz):=scM (by decide +kernel)
theorem sc_orders_from:FnScope ["tables", "thing", "orders"] ["tables", "thing"] (zaj zcj):=scM (by decide +kernel)
theorem zdi:FnScope ["self", "tables", "orders"] ["self", "tables", "orders"] (zaj zaJ):=scM (by decide +kernel)
theorem zcn:FnScope ["self"] ["self"] (zaj za2):=scM (by decide +kernel)
theorem zcO:FnScope ["self", "table"] ["self", "table"] (zaj za6):=scM (by decide +kernel)
theorem sc_Schema_has_order:FnScope ["self", "table", "column", "key"] ["self", "table", "column"] (zaj zbh):=scM (by decide +kernel)
theorem zd1:FnScope ["self", "table", "thing"] ["self", "table", "thing"] (zaj zbC):=scM (by decide +kernel)
theorem zfe:FnScope ["self"] ["self"] (zaj zcb):=scM (by decide +kernel)
theorem zeG:FnScope ["_law_script", "_law_k"] ["_law_script", "_law_k"] (zaj zbU):=scM (by decide +kernel)
theorem sc__law_stream:FnScope ["_law_cell", "_law_many", "_law_found", "_law_left", "_law_number", "_law_k"] ["_law_cell", "_law_many"] (zaj zb7):=scM (by decide +kernel)
theorem sc__law_names:FnScope ["_law_number", "_law_many", "_law_letters", "_law_tail", "_law_at", "_law_names_here", "_law_k", "_law_name"] ["_law_number", "_law_many"] (zaj zcp):=scM (by decide +kernel)
theorem sc__law_schema:FnScope ["_law_cell", "_law_numbers", "_law_tables", "_law_orders", "_law_k", "_law_name", "_law_columns", "_law_place", "_law_kinds", "_law_j"] ["_law_cell"] (zaj zcc):=scM (by decide +kernel)
theorem sc__law_value:FnScope ["_law_kind", "_law_number", "_law_word"] ["_law_kind", "_law_number"] (zaj zcw):=scM (by decide +kernel)
theorem zhq:FnScope ["_law_table", "_law_numbers"] ["_law_table", "_law_numbers"] (zaj zdO):=scM (by decide +kernel)
theorem sc__law_first:FnScope ["_law_told", "_law_cell", "_law_model", "_law_k", "_law_table", "_law_numbers", "_law_j", "_law_row_here"] ["_law_told", "_law_cell"] (zaj zcu):=scM (by decide +kernel)
theorem sc__law_handed:FnScope ["_law_model", "_law_handed_here", "_law_table"] ["_law_model"] (zaj zck):=scM (by decide +kernel)
theorem sc__law_writes:FnScope ["_law_told", "_law_model", "_law_cell", "_law_numbers", "_law_found", "_law_k", "_law_some", "_law_table", "_law_row_here", "_law_keys", "_law_way"] ["_law_told", "_law_model", "_law_cell"] (zaj zca):=scM (by decide +kernel)
theorem sc__law_behind:FnScope ["_law_model", "_law_writes_here", "_law_found", "_law_table", "_law_key", "_law_row_here"] ["_law_model", "_law_writes_here"] (zaj zb8):=scM (by decide +kernel)
theorem sc__law_ordered:FnScope ["_law_told", "_law_table", "_law_names_here"] ["_law_told", "_law_table"] (zaj zbX):=scM (by decide +kernel)
theorem sc__law_table_right:FnScope ["_law_makes", "_law_told", "_law_make", "_law_table", "_law_rows", "_law_due", "_law_turn", "_law_found", "_law_key", "_law_j", "_law_column", "_law_order"] ["_law_makes", "_law_told", "_law_make", "_law_table", "_law_rows"] (zaj zba):=scM (by decide +kernel)
theorem sc__law_make_right:FnScope ["_law_makes", "_law_told", "_law_make", "_law_model", "_law_table"] ["_law_makes", "_law_told", "_law_make", "_law_model"] (zaj zbm):=scM (by decide +kernel)
theorem sc__law_no_row:FnScope ["_law_makes", "_law_told", "_law_make", "_law_model", "_law_table", "_law_there", "_law_key", "_law_due"] ["_law_makes", "_law_told", "_law_make", "_law_model"] (zaj zb5):=scM (by decide +kernel)
theorem sc__law_begun:FnScope ["_law_script", "_law_k", "_law_told", "_law_model", "_law_handed_here", "_law_schema_here", "_law_makes", "_law_table"] ["_law_script", "_law_k"] (zaj zcx):=scM (by decide +kernel)
theorem sc__law_step:FnScope ["_law_scene", "_law_cell", "_law_makes", "_law_told", "_law_models", "_law_writes_here", "_law_number", "_law_some"] ["_law_scene", "_law_cell"] (zaj zcY):=scM (by decide +kernel)
theorem sc_law:FnScope ["_law_script", "_law_scenes", "_law_scene", "_law_cell", "_law_makes", "_law_told", "_law_models", "_law_make", "_law_bare"] ["_law_script"] (zaj s_law):=scM (by decide +kernel)
noncomputable def isLow (c:Nat):Bool:=decide (97<=c)&&decide (c<=122)
noncomputable def isNm (x:Str):Bool:=decide (1<=x.length)&&decide (x.length<=8)&&x.cps.toList.all isLow
noncomputable def isName:V->Bool
 | .str x=>isNm x
 | _=>false
def isInt:V->Bool
 | .int _=>true
 | _=>false
def isIB:V->Bool
 | .int _=>true
 | .bl _=>true
 | _=>false
def isBl:V->Bool
 | .bl _=>true
 | _=>false
def isSt:V->Bool
 | .str _=>true
 | _=>false
def isNum:V->Bool
 | .int i=>decide (-1000000000<=i)&&decide (i<=1000000000)
 | _=>false
noncomputable def isVal (k:Str) (v:V):Bool:=if k = "number" then isNum v else isName v
def Thing (K:PySem.W.Frag) (H:Hp) (v:V):Prop :=
 (∃ T,TyOf K H v (.type T)/\(T = "NoneType"\/T = "bool"\/T = "int"\/T = "str"\/T = "list"\/T = "tuple"\/T = "dict"))/\∀ x,v = .str x->x.length<=1000
theorem Thing.same {K:PySem.W.Frag} {H H':Hp} {v:V} (h:Thing K H v) (s:Same H H'):Thing K H' v:=by
 obtain ⟨⟨T,y,m⟩,z⟩:=h;exact ⟨⟨T,s.tyOf y,m⟩,z⟩
theorem Thing.int {K:PySem.W.Frag} {H:Hp} (i:Int):Thing K H (.int i):=⟨⟨_,.int i,.inr (.inr (.inl rfl))⟩,λx e=>nomatch e⟩
theorem Thing.str {K:PySem.W.Frag} {H:Hp} {x:Str} (h:x.length<=1000):Thing K H (.str x):=⟨⟨_,.str x,.inr (.inr (.inr (.inl rfl)))⟩,λy e=>by cases e;exact h⟩
section
variable {K:PySem.W.Frag} {H:Hp} {v:V}
theorem zeI (c:String) (f:V->Bool) (h:Thing K H v)
  (k1:ybg K (.type "NoneType") (.type c)=some (f .non)) (k2:∀ b,ybg K (.type "bool") (.type c)=some (f (.bl b))) (k3:∀ i,ybg K (.type "int") (.type c)=some (f (.int i)))
  (k4:∀ x,ybg K (.type "str") (.type c)=some (f (.str x))) (k5:∀ a,ybg K (.type "list") (.type c)=some (f (.ref a))) (k6:∀ a,ybg K (.type "tuple") (.type c)=some (f (.ref a)))
  (k7:∀ a,ybg K (.type "dict") (.type c)=some (f (.ref a))):∃ t,TyOf K H v t/\ybg K t (.type c)=some (f v):=by
 obtain ⟨⟨T,y,m⟩,_⟩:=h;cases y with
 | non=>exact ⟨_,.non,k1⟩
 | bl b=>exact ⟨_,.bl b,k2 b⟩
 | int i=>exact ⟨_,.int i,k3 i⟩
 | str x=>exact ⟨_,.str x,k4 x⟩
 | flt x=>exact absurd m (by decide)
 | lst e=>exact ⟨_,.lst e,k5 _⟩
 | frz e=>exact ⟨_,.frz e,k5 _⟩
 | tup e=>exact ⟨_,.tup e,k6 _⟩
 | dK e=>exact ⟨_,.dK e,k7 _⟩
 | dT e=>exact ⟨_,.dT e,k7 _⟩
theorem thing_int (h:Thing K H v):∃ t,TyOf K H v t/\ybg K t (.type "int")=some (isIB v) :=
 zeI "int" isIB h (by rfl) (λ_=>by rfl) (λ_=>zbS) (λ_=>by rfl) (λ_=>by rfl) (λ_=>by rfl) (λ_=>by rfl)
theorem zin (h:Thing K H v):∃ t,TyOf K H v t/\ybg K t (.type "bool")=some (isBl v) :=
 zeI "bool" isBl h (by rfl) (λ_=>zbS) (λ_=>by rfl) (λ_=>by rfl) (λ_=>by rfl) (λ_=>by rfl) (λ_=>by rfl)
theorem thing_str (h:Thing K H v):∃ t,TyOf K H v t/\ybg K t (.type "str")=some (isSt v) :=
 zeI "str" isSt h (by rfl) (λ_=>by rfl) (λ_=>by rfl) (λ_=>zbS) (λ_=>by rfl) (λ_=>by rfl) (λ_=>by rfl)
end
def zhh (K:PySem.W.Frag):Sp:=λvs H Q _=>∃ v,vs = [v]/\Thing K H v/\Q (.bl (isInt v)) H
def zhx:Sp:=λvs H Q _=>∃ a x,vs = [.str a,.str x]/\x.length<=1000/\∀ H',Same H H'->Q (.bl (x.cps.toList.all λc=>decide (c∈a.cps.toList))) H'
def ziK (K:PySem.W.Frag):Sp:=λvs H Q _=>∃ v,vs = [v]/\Thing K H v/\∀ H',Same H H'->Q (.bl (isName v)) H'
def zgX (K:PySem.W.Frag):Sp:=λvs H Q _=>∃ k v,vs = [.str k,v]/\(k = "number"\/k = "word")/\Thing K H v/\∀ H',Same H H'->Q (.bl (isVal k v)) H'
theorem q_of {Q:VK} {H:Hp} {b c:Bool} (h:Q (.bl b) H) (e:b=c):Q (.bl c) H:=e ▸ h
theorem zhg (c:Nat):decide (c∈("abcdefghijklmnopqrstuvwxyz" : Str).cps.toList)=isLow c:=by
 have e:("abcdefghijklmnopqrstuvwxyz" : Str).cps.toList=List.range' 97 26:=by decide +kernel
 rw [e,ycg];unfold isLow;simp only [decide_eq_true_eq,ya9,List.mem_range'_1];omega
theorem zbR (v:V):isVal "number" v=isNum v:=if_pos rfl
theorem zcI (v:V):isVal "word" v=isName v:=if_neg (by decide +kernel)
theorem zcU (x:Str):x.cps.toList.length=x.length:=ybu
theorem zeq (T:Txt K mg):FnOk P w K mg base CX0 1 T.is_whole.f T.is_whole.fd ["thing"] (zhh K):=by
 refine T.is_whole.fn.ok zhn (λvs H Q E h => ?_) (λd A outer s H vs Q E g h => ?_)
 ·obtain ⟨v,rfl,_⟩:=h;rfl
 ·obtain ⟨v,rfl,a,k⟩:=h;refine ⟨_,((zag (zao (zdY (zap (za1 (K:=K) rfl) (by rfl) T.b_isinstance zaF (zaa (pv 0) (zaa (zbH (v := .ty "int") rfl T.b_int zhC rfl) zae))) (zcR (pe_not (zap (za1 (K:=K) rfl) (by rfl) T.b_isinstance zaF (zaa (pv 0) (zaa (zbH (v := .ty "bool") rfl T.b_bool zhm rfl) zae))))))))),?_⟩;obtain ⟨j,e,e1⟩:=thing_int a;obtain ⟨t2,c,e2⟩:=zin a;refine (ea rfl ⟨_,_,_,ea rfl ⟨e,e1,ea rfl ?_⟩⟩);cases v with
  | int i=>exact iteT ⟨_,rfl,_,_,_,_,rfl,c,e2,_,rfl,k⟩
  | bl b=>exact iteT ⟨_,rfl,_,_,_,_,rfl,c,e2,_,rfl,k⟩
  | _=>exact iteF k
theorem zhu (T:Txt K mg):FnOk P w K mg base CX0 1 T.has_only.f T.has_only.fd ["signs", "text"] zhx:=by
 refine T.has_only.fn.ok zhs (λvs H Q E h => ?_) (λl A outer s H vs Q E o h => ?_)
 ·obtain ⟨a,x,rfl,_⟩:=h;rfl
 ·obtain ⟨a,x,rfl,n,k⟩:=h;refine ⟨_,((zag (zao (zap (call_all rfl) (by rfl) T.b_all bt_all (zaa (za7 (N := ["sign", "signs"]) (own:=1) (caps := [0]) rfl (by kernel_rfl) (by kernel_rfl) (pi_str (pv 1)) (λ_ _ _ _ _=>zal (i:=0) (show List.Nodup (["sign", "signs"]:List Str) by decide +kernel) rfl (yaL rfl)) (λ_ _ _ _ _=>zaW) (λ_ _ _ _ _=>(zby op_in_str (pv 0) (pv 1) (by with_unfolding_all rfl)))) zae))))),?_⟩;refine (ea rfl (ea rfl (λD j => ?_)));refine zaH (J:=Its x) x.cps.size (λi d b=>∃ v,d = [v,some (.str a)]/\Same H b/\b D=some (.lst ((x.cps.toList.take i).map λc=>V.bl (decide (c∈a.cps.toList)))))
   ?_ (λi d b hi _=>hi) (λd b _=>yaj _) ?_ ?_
  ·exact ⟨none,rfl,Same.new j,zab⟩
  ·rintro i d b y m hi ⟨v,rfl,g,hd⟩ ⟨rfl,c,hc,rfl⟩;refine (ea rfl (ea rfl ⟨_,ea rfl ⟨rfl,_,hd,?_,ea rfl ⟨g.upd j,?_⟩⟩⟩))
   ·rw [yab,yaA,zcU];exact zai (by omega)
   ·rw [zab,StrLaws.found_one];have e:x.cps.toList[i]? = some c:=by simpa using hc
    rw [yb1,e,yak];rfl
  ·rintro d b ⟨v,rfl,g,hd⟩;refine ⟨_,x.cps.toList.map λc=>decide (c∈a.cps.toList),rfl,?_,?_⟩
   ·rw [hd,ydr (by simp),yaU];rfl
   ·refine q_of (k b g) ?_;rw [ydx];rfl
theorem zcG (T:Txt K mg):FnOk P w K mg base CX0 2 T.is_name.f T.is_name.fd ["thing"] (ziK K):=by
 refine T.is_name.fn.ok ziH (λvs H Q E h => ?_) (λd A outer s H vs Q E g h => ?_)
 ·obtain ⟨v,rfl,_⟩:=h;rfl
 ·obtain ⟨v,rfl,b,k⟩:=h;refine ⟨_,((zad (ps_if (zbb (za8 (zap (za1 (K:=K) rfl) (by rfl) T.b_isinstance zaF (zaa (pv 0) (zaa (zbH (v := .ty "str") rfl T.b_str bt_str rfl) zae))))) (zag (zao pe_bl)) zau)
   (zag (zao (zdY (zh4 op_le op_le zac (zap zbM (by rfl) T.b_len za9 (zaa (pv 0) zae)) (zdy rfl T.c_LONGEST_NAME (T.r_LONGEST_NAME))) (zcR (zaq (zhu T) (g.mono (by decide)) rfl (zaa (zdy rfl T.c_LETTERS (T.r_LETTERS)) (zaa (pv 0) zae))))))))),?_⟩
  obtain ⟨m,i,e1⟩:=thing_str b;refine sq1 λj a => ?_;refine (ea rfl ⟨_,_,_,ea rfl ⟨i,e1,ea rfl ?_⟩⟩);cases v with
  | str x =>
   refine iteF ?_;have e:=b.2 x rfl;refine a ?_;refine (ea rfl (ea rfl ⟨zah (by omega),_,ea rfl ⟨rfl,ea rfl ?_⟩⟩));refine ite2 (λh1 => ?_) (λh1 => ?_)
   ·have h1:(1:Int)<=(x.length:Int):=of_decide_eq_true h1;refine ⟨_,ea rfl ⟨rfl,ea rfl ?_⟩⟩;refine ite2 (λh2 => ?_) (λh2 => ?_)
    ·have h2:(x.length:Int)<=8:=of_decide_eq_true h2;refine (ea rfl ⟨_,ea rfl ⟨e,λH' l=>q_of (k H' l) ?_⟩⟩);show isNm x=_;unfold isNm;rw [decide_eq_true (by omega:1<=x.length),decide_eq_true (by omega:x.length<=8)];exact congrArg (λf=>x.cps.toList.all f) (funext λc=>(zhg c).symm)
    ·refine q_of (k H (Same.refl H)) ?_;show isNm x=_;have h2:¬ (x.length:Int)<=8:=λz=>h2 (decide_eq_true z);unfold isNm;rw [decide_eq_false (by omega:¬ x.length<=8),Bool.and_false,ycR]
   ·have h1:¬ (1:Int)<=(x.length:Int):=λz=>h1 (decide_eq_true z);refine (ea rfl (iteF (q_of (k H (Same.refl H)) ?_)));show isNm x=_;unfold isNm;rw [decide_eq_false (by omega:¬ 1<=x.length),ycR,ycR]
  | _=>exact iteT (k H (Same.refl H))
theorem zhl (T:Txt K mg):FnOk P w K mg base CX0 3 T.is_value.f T.is_value.fd ["kind", "thing"] (zgX K):=by
 refine T.is_value.fn.ok zg6 (λvs H Q E h => ?_) (λl A outer s H vs Q E g h => ?_)
 ·obtain ⟨kd,v,rfl,_⟩:=h;rfl
 ·obtain ⟨kd,v,rfl,j,d,k⟩:=h;refine ⟨_,((zad (ps_if (zaz op_eq (pv 0) zbE (zaD _)) (zag (zao (zdY (zaq (zeq T) (g.mono (by decide)) rfl (zaa (pv 1) zae)) (zcR (zh4 op_le op_le (pe_un zcS (zdy rfl T.c_GREATEST (T.r_GREATEST))) (pv 1) (zdy rfl T.c_GREATEST (T.r_GREATEST))))))) zau)
   (zag (zao (zdY (zby op_eq (pv 0) zbE (zaD _)) (zcR (zaq (zcG T) (g.mono (by decide)) rfl (zaa (pv 1) zae)))))))),?_⟩
  refine sq1 λn c => ?_;refine (ea rfl ⟨rfl,ea rfl ?_⟩);rcases j with rfl | rfl
  ·refine ite2 (λ_ => ?_) (λz=>absurd (decide_eq_true rfl) z);refine (ea rfl (ea rfl ⟨d,ea rfl ?_⟩));have a:∀ b,isNum v=b->Q (.bl b) H:=λb e=>q_of (k H (Same.refl H)) (by rw [zbR];exact e);cases v with
   | int i =>
    refine iteT (ea rfl (ea rfl ⟨_,ea rfl ⟨rfl,ea rfl ?_⟩⟩));refine ite2 (λh1 => ?_) (λh1 => ?_)
    ·refine ⟨_,ea rfl ⟨rfl,a _ ?_⟩⟩;show (decide (-1000000000<=i)&&decide (i<=1000000000))=_;rw [show decide (-1000000000<=i)=true from h1,Bool.true_and]
    ·refine a _ ?_;show (decide (-1000000000<=i)&&decide (i<=1000000000))=_;rw [show decide (-1000000000<=i)=false from by simpa using h1,ycR]
   | _=>exact iteF (a _ rfl)
  ·refine ite2 (λz=>absurd z (by decide +kernel)) (λ_ => ?_);refine c ?_;refine (ea rfl ⟨rfl,ea rfl ?_⟩);refine ite2 (λ_ => ?_) (λz=>absurd (decide_eq_true rfl) z);exact (ea rfl (ea rfl ⟨d,λH' m=>q_of (k H' m) (zcI v)⟩))
abbrev Col:=Str×Str
def colV (c:Col):List V := [.str c.1,.str c.2]
def okCol (c:Col):Prop:=isNm c.1=true/\(c.2 = "number"\/c.2 = "word")
def ColsAt (H:Hp) (qs:List Addr) (cs:List Col):Prop:=Paired (λq c=>H q=some (.tup (colV c))) qs cs
theorem ColsAt.same {H H':Hp} {a:List Addr} {cs:List Col} (h:ColsAt H a cs) (s:Same H H'):ColsAt H' a cs:=Paired.mapP h λ_ _ e=>s _ _ e
def Sq (H:Hp) (a:Addr) (xs:List V):Prop:=H a=some (.lst xs)\/H a=some (.tup xs)
theorem Sq.same {H H':Hp} {a:Addr} {xs:List V} (h:Sq H a xs) (s:Same H H'):Sq H' a xs:=h.imp (s _ _) (s _ _)
def okTab (n:Str) (cs:List Col):Prop:=isNm n=true/\1<=cs.length/\cs.length<=4/\(∀ c∈cs,okCol c)/\(cs.map (·.1)).Nodup
def sp_few_of:Sp:=λvs H Q _=>∃ (a:Addr) (xs:List V) (m:Int),vs = [.ref a,.int m]/\Sq H a xs/\m<=xs.length/\xs.length<=4/\∀ H',Same H H'->Q (.ref a) H'
def zis:Sp:=λvs H Q _=>∃ (a:Addr) (x y:V),vs = [.ref a]/\H a=some (.tup [x,y])/\Q (.ref a) H
def zgQ:Sp:=λvs H Q _=>∃ x,vs = [.str x]/\isNm x=true/\∀ H',Same H H'->Q (.str x) H'
def zfm:Sp:=λvs H Q _=>(∃ (a:Addr) (ys:List Str),vs = [.ref a]/\H a=some (.lst (ys.map V.str))/\ys.Nodup/\ys.length<=1000/\∀ H',Same H H'->Q .non H') \/
 ∃ (a:Addr) (qs:List Addr) (cs:List Col),vs = [.ref a]/\H a=some (.tup (qs.map V.ref))/\ColsAt H qs cs/\cs.Nodup/\qs.length<=4/\∀ H',Same H H'->Q .non H'
def zfh:Sp:=λvs H Q _=>∃ (a:Addr) (c:Col),vs = [.ref a]/\H a=some (.tup (colV c))/\okCol c/\∀ (r:Addr) (H':Hp),H r=none->Same H H'->H' r=some (.tup (colV c))->Q (.ref r) H'
def zgd:Sp:=λvs H Q _=>∃ (a ca:Addr) (qs:List Addr) (n:Str) (cs:List Col),vs = [.ref a]/\H a=some (.tup [.str n,.ref ca])/\Sq H ca (qs.map V.ref)/\ColsAt H qs cs/\okTab n cs /\
 ∀ (r ca':Addr) (qs':List Addr) (H':Hp),H r=none->Same H H'->H' r=some (.tup [.str n,.ref ca'])->H' ca'=some (.tup (qs'.map V.ref))->ColsAt H' qs' cs->Q (.ref r) H'
def colK (c:Col):List Key := [.inr c.1,.inr c.2]
theorem colK_inj {a b:Col} (h:colK a=colK b):a=b:=by
 injection h with h1 h2;injection h2 with h2 _;injection h1 with h1;injection h2 with h2;exact Prod.ext h1 h2
theorem zfB:∀ {cs:List Col},cs.Nodup->(cs.map colK).Nodup
 | [],_=>yce
 | c :: cs,h=>by
  rw [ybm] at h;rw [yaw,ybm];refine ⟨λz => ?_,zfB h.2⟩;obtain ⟨d,hd,e⟩:=yao.mp z;exact h.1 (colK_inj e ▸ hd)
theorem colsK:∀ {H:Hp} {a:List Addr} {cs:List Col},ColsAt H a cs->∀ {i:Nat} {q:Addr} {k:List Key},a[i]? = some q->(cs.map colK)[i]? = some k->H q=some (.tup (k.map kV))
 | _,_,_,.nil,i,_,_,e,_=>by simp at e
 | _,_,_,.cons r _,0,_,_,e1,e2=>by cases e1;cases e2;exact r
 | _,_,_,.cons _ t,i+1,_,_,e1,e2=>colsK t (i:=i) e1 e2
theorem units4 {k:Nat} {A:yaM} (a:Room k A):A.units+4 < cLine:=by have:=a.un;omega
theorem nm_len {x:Str} (h:isNm x=true):x.length<=1000:=by
 unfold isNm at h;simp only [ya9,decide_eq_true_eq] at h;omega
theorem kit_lt {K:PySem.W.Frag}:PySem.W.kitAny K (.type "list") [.type "list",.type "tuple"]=some true:=by rfl
theorem kit_tt {K:PySem.W.Frag}:PySem.W.kitAny K (.type "tuple") [.type "list",.type "tuple"]=some true:=by rfl
theorem zb2 (T:Txt K mg):FnOk P w K mg base CX0 1 T.few_of.f T.few_of.fd ["thing", "least"] sp_few_of:=by
 refine T.few_of.fn.ok sc_few_of (λvs H Q E h => ?_) (λg A outer s H vs Q E j h => ?_)
 ·obtain ⟨a,xs,m,rfl,_⟩:=h;rfl
 ·obtain ⟨a,xs,m,rfl,b,i,h1,q⟩:=h;refine ⟨_,((zad (ps_if (PW.pt (pw_or (zbb (za8 (zap (ziw (K:=K) rfl) (by rfl) T.b_isinstance zaF (zaa (pv 0) (zaa (zaU (zaa (zbH (v := .ty "list") rfl T.b_list zen rfl) (zaa (zbH (v := .ty "tuple") rfl T.b_tuple zcF rfl) zae))) zae))))) (zcB (zbb (pt_chain op_le op_le (pv 1) (zap (zav (K:=K) rfl) (by rfl) T.b_len za9 (zaa (pv 0) zae)) (zdy rfl T.c_MOST (T.r_MOST))))))) (zag zbp) zau)
   (zag (zao (pv 0))))),?_⟩
  refine (ea rfl ⟨zah (show 2<=100000 by decide),λtp e => ?_⟩);have c:Same H (upd H tp (.tup [.ty "list",.ty "tuple"])):=Same.new e;have l0:m<=((xs.length:Nat):Int):=i;have l1:((xs.length:Nat):Int)<=4:=by omega
  rcases b with b | b
  ·refine ⟨_,tp,_,_,["list", "tuple"],rfl,zab,.lst (c _ _ b),kit_lt,ea rfl (iteF ?_)⟩;refine (ea rfl (ea rfl ⟨a,ea rfl ⟨.inl (SqL.of (c _ _ b)),_,ea rfl ⟨rfl,ea rfl (ite2 (λd => ?_) (λd=>absurd (decide_eq_true l0) d))⟩⟩⟩));refine ⟨_,ea rfl ⟨rfl,ea rfl (ite2 (λz=>absurd z ?_) (λ_=>(ea rfl (q _ c))))⟩⟩;rw [decide_eq_true l1];decide
  ·refine ⟨_,tp,_,_,["list", "tuple"],rfl,zab,.tup (c _ _ b),kit_tt,ea rfl (iteF ?_)⟩;refine (ea rfl (ea rfl ⟨a,ea rfl ⟨.inr (SqT.of (c _ _ b)),_,ea rfl ⟨rfl,ea rfl (ite2 (λd => ?_) (λd=>absurd (decide_eq_true l0) d))⟩⟩⟩));refine ⟨_,ea rfl ⟨rfl,ea rfl (ite2 (λz=>absurd z ?_) (λ_=>(ea rfl (q _ c))))⟩⟩;rw [decide_eq_true l1];decide
theorem zdD (T:Txt K mg):FnOk P w K mg base CX0 1 T.pair_of.f T.pair_of.fd ["thing"] zis:=by
 refine T.pair_of.fn.ok ziP (λvs H Q E h => ?_) (λd A outer s H vs Q E g h => ?_)
 ·obtain ⟨a,x,y,rfl,_⟩:=h;rfl
 ·obtain ⟨a,x,y,rfl,c,q⟩:=h;refine ⟨_,((zad (ps_if (PW.pt (pw_or (zbb (za8 (zap (za1 (K:=K) rfl) (by rfl) T.b_isinstance zaF (zaa (pv 0) (zaa (zbH (v := .ty "tuple") rfl T.b_tuple zcF rfl) zae))))) (zcB (zaz op_ne (zap (zav (K:=K) rfl) (by rfl) T.b_len za9 (zaa (pv 0) zae)) zac (zaD _))))) (zag zbp) zau)
   (zag (zao (pv 0))))),?_⟩
  refine sq1 λe b => ?_;refine (ea rfl ⟨_,_,_,ea rfl ⟨.tup c,zbS,ea rfl (iteF ?_)⟩⟩);refine (ea rfl ⟨a,ea rfl ⟨.inr (SqT.of c),rfl,ea rfl (ite2 (λz=>absurd z (by simp)) (λ_ => ?_))⟩⟩);refine b ?_;exact (ea rfl q)
theorem zbP (T:Txt K mg):FnOk P w K mg base CX0 3 T.need_name.f T.need_name.fd ["thing"] zgQ:=by
 refine T.need_name.fn.ok zgj (λvs H Q E h => ?_) (λc A outer s H vs Q E e h => ?_)
 ·obtain ⟨x,rfl,_⟩:=h;rfl
 ·obtain ⟨x,rfl,b,q⟩:=h;refine ⟨_,((zad (ps_if (zbb (za8 (zaq (zcG T) (e.mono (by decide)) rfl (zaa (pv 0) zae)))) (zag zbp) zau)
   (zag (zao (pv 0))))),?_⟩
  refine sq1 λi a => ?_;refine (ea rfl (ea rfl ⟨Thing.str (nm_len b),λg d=>(ea rfl (ite2 (λz=>absurd z (by simp [isName,b])) (λ_ => ?_)))⟩));refine a ?_;exact (ea rfl (q g d))
theorem zbW (T:Txt K mg):FnOk P w K mg base CX0 1 T.need_unlike.f T.need_unlike.fd ["things"] zfm:=by
 refine T.need_unlike.fn.ok zfj (λvs H Q E h => ?_) (λo A outer s H vs Q E n h => ?_)
 ·rcases h with ⟨a,ys,rfl,_⟩ | ⟨a,j,cs,rfl,_⟩ <;> rfl
 ·rcases h with ⟨a,ys,rfl,e,m,g,q⟩ | ⟨a,j,cs,rfl,e,hc,m,g,q⟩
  ·have c:=units4 n;refine ⟨_,((zag (ps_if (zaz op_ne (zap zc8 (by rfl) T.b_len za9 (zaa (zaQ (CallR.or (zfy (K:=K) rfl rfl) (zfN (K:=K) rfl rfl c)) (by rfl) T.b_set bt_set (zaa (pv 0) zae)) zae)) (zap (zav (K:=K) rfl) (by rfl) T.b_len za9 (zaa (pv 0) zae)) (zaD _)) (zag zbp) zau))),?_⟩;refine (ea rfl (.inl ⟨a,ys,rfl,SqL.of e,m,g,λl b => ?_⟩));have d:Same H (upd H l (setO l ys.length)):=Same.new b;refine ⟨l,ea rfl ⟨zab,g,ea rfl ⟨a,ea rfl ⟨.inl (SqL.of (d _ _ e)),rfl,ea rfl (ite2 (λz=>absurd z (by simp)) (λ_=>q _ d))⟩⟩⟩⟩
  ·have c:=units4 n;refine ⟨_,((zag (ps_if (zaz op_ne (zap zc8 (by rfl) T.b_len za9 (zaa (zaQ (CallR.or (zfy (K:=K) rfl rfl) (zfN (K:=K) rfl rfl c)) (by rfl) T.b_set bt_set (zaa (pv 0) zae)) zae)) (zap (zav (K:=K) rfl) (by rfl) T.b_len za9 (zaa (pv 0) zae)) (zaD _)) (zag zbp) zau))),?_⟩;refine (ea rfl (.inr ⟨a,j,cs.map colK,rfl,SqT.of e,by rw [yab];exact (yaC hc).symm,g,zfB m,λi q k e1 e2=>colsK hc e1 e2,λl b => ?_⟩));have d:Same H (upd H l (setO l j.length)):=Same.new b;refine ⟨l,ea rfl ⟨zab,by omega,ea rfl ⟨a,ea rfl ⟨.inr (SqT.of (d _ _ e)),rfl,ea rfl (ite2 (λz=>absurd z (by simp)) (λ_=>q _ d))⟩⟩⟩⟩
theorem kinds_in (T:Txt K mg) (H:Hp):SqT K H T.D_KINDS [.str "number",.str "word"] := .inr T.t_KINDS
theorem kind_in {k:Str} (h:k = "number"\/k = "word"):inV (.str k) [.str "number",.str "word"]=true:=by
 rcases h with rfl | rfl <;> decide +kernel
theorem zfi (T:Txt K mg):FnOk P w K mg base CX0 4 T.column_from.f T.column_from.fd ["thing"] zfh:=by
 refine T.column_from.fn.ok sc_column_from (λvs H Q E h => ?_) (λl A outer s H vs Q E j h => ?_)
 ·obtain ⟨a,c,rfl,_⟩:=h;rfl
 ·obtain ⟨a,c,rfl,b,⟨m,k⟩,q⟩:=h;refine ⟨_,((zad (zas (i:=1) sc_column_from.nd rfl (yaL rfl) (zaq (zdD T) (j.mono (by decide)) rfl (zaa (pv 0) zae)))
   (zad (ps_if (PW.pt (pw_or (zbb (za8 (zap (za1 (K:=K) rfl) (by rfl) T.b_isinstance zaF (zaa (pe_ix (zak (K:=K) rfl) (pv 1) zac (λ_ _=>rfl)) (zaa (zbH (v := .ty "str") rfl T.b_str bt_str rfl) zae))))) (zcB (zaz (zf4 (K:=K) rfl) (pe_ix (zak (K:=K) rfl) (pv 1) zac (λ_ _=>rfl)) (zdy (v := .ref T.D_KINDS) rfl T.c_KINDS rfl) (by with_unfolding_all rfl))))) (zag zbp) zau)
   (zag (zao (zaU (zaa (zaq (zbP T) (j.mono (by decide)) rfl (zaa (pe_ix (zak (K:=K) rfl) (pv 1) zac (λ_ _=>rfl)) zae)) (zaa (pe_ix (zak (K:=K) rfl) (pv 1) zac (λ_ _=>rfl)) zae)))))))),?_⟩
  refine sq1 λn g => ?_;refine (ea rfl ⟨a,_,ea rfl ⟨b,?_⟩⟩);refine g ?_;refine (ea rfl (ixTc (SqT.of b) rfl ⟨_,_,_,ea rfl ⟨.str c.2,zbS,ea rfl (iteF ?_)⟩⟩));refine (ea rfl (ixTc (SqT.of b) rfl ⟨T.D_KINDS,ea rfl ⟨.inr (kinds_in T _),rfl,rfl,ea rfl ?_⟩⟩));rw [if_pos rfl,kind_in k];refine iteF (ea rfl (ixTc (SqT.of b) rfl (ea rfl ⟨m,λo e => ?_⟩)));refine (ea rfl (ixTc (SqT.of (e _ _ b)) rfl ⟨zah (show 2<=100000 by decide),λr d => ?_⟩));exact q r _ (e.free d) (e.upd (e.free d)) zab
theorem ColsAt.updL {H:Hp} {a:List Addr} {cs:List Col} {D:Addr} {xs:List V} {o:HO} (h:ColsAt H a cs) (hd:H D=some (.lst xs)):ColsAt (upd H D o) a cs :=
 Paired.mapP h λq c e=>by rw [zaf (ne_of e hd (λz=>nomatch z))];exact e
theorem Paired.snoc {α c:Type} {R:α->c->Prop} {as:List α} {bs:List c} {a:α} {b:c} (h:Paired R as bs) (r:R a b):Paired R (as ++ [a]) (bs ++ [b]):=by
 induction h with
 | nil=>exact .cons r .nil
 | cons q t d=>exact .cons q d
theorem zf1 (T:Txt K mg):FnOk P w K mg base CX0 5 T.table_from.f T.table_from.fd ["thing"] zgd:=by
 refine T.table_from.fn.ok sc_table_from (λvs H Q E h => ?_) (λaE A outer s H vs Q E hr h => ?_)
 ·obtain ⟨a,Z,R,n,cs,rfl,_⟩:=h;rfl
 ·obtain ⟨a,Z,R,n,cs,rfl,ha,B,hc,⟨hn,l0,l1,ao,nd⟩,q⟩:=h;have ql:R.length=cs.length:=yaC hc;refine ⟨_,((zad (zas (i:=1) sc_table_from.nd rfl (yaL rfl) (zaq (zdD T) (hr.mono (by decide)) rfl (zaa (pv 0) zae)))
   (zad (zas (i:=2) sc_table_from.nd rfl (yaL rfl) (zaQ (zbY (K:=K) rfl) (by rfl) T.b_tuple zcF (zaa (za7 (N := ["part"]) (own:=1) (caps := []) rfl (by kernel_rfl) (by kernel_rfl) (pi_or (zaA (K:=K) rfl (zaq (zb2 T) (hr.mono (by decide)) rfl (zaa (pe_ix (zak (K:=K) rfl) (pv 1) zac (λ_ _=>rfl)) (zaa zac zae)))) (zcy (K:=K) rfl (zaq (zb2 T) (hr.mono (by decide)) rfl (zaa (pe_ix (zak (K:=K) rfl) (pv 1) zac (λ_ _=>rfl)) (zaa zac zae))))) (λ_ _ _ _ _=>zal (i:=0) (show List.Nodup (["part"]:List Str) by decide +kernel) rfl (yaL rfl)) (λ_ _ _ _ _=>zaW) (λ_ _ _ _ _=>(zaq (zfi T) (hr.mono (by decide)) rfl (zaa (pv 0) zae)))) zae)))
   (zad (zaI (zaq (zbW T) (hr.mono (by decide)) rfl (zaa (za7 (N := ["column"]) (own:=1) (caps := []) rfl (by kernel_rfl) (by kernel_rfl) (zcy (K:=K) rfl (pv 2)) (λ_ _ _ _ _=>zal (i:=0) (show List.Nodup (["column"]:List Str) by decide +kernel) rfl (yaL rfl)) (λ_ _ _ _ _=>zaW) (λ_ _ _ _ _=>(pe_ix (zak (K:=K) rfl) (pv 0) zac (λ_ _=>rfl)))) zae)))
   (zag (zao (zaU (zaa (zaq (zbP T) (hr.mono (by decide)) rfl (zaa (pe_ix (zak (K:=K) rfl) (pv 1) zac (λ_ _=>rfl)) zae)) (zaa (pv 2) zae))))))))),?_⟩
  refine sq1 λaB ak => ?_;refine (ea rfl ⟨a,_,ea rfl ⟨ha,?_⟩⟩);rcases B with B | B
  ·refine ak (sq1 λaF ar => ?_);refine .inl (ea rfl (ixTc (SqT.of ha) rfl ⟨Z,_,1,rfl,.inl B,by rw [yab];omega,by rw [yab];omega,λH1 C=>⟨Z,rfl,⟨_,SqL.of (C _ _ B)⟩,λD hD => ?_⟩⟩));refine zaH (J:=Itl K Z) R.length (λj l k=>∃ (v:Option V) (b:List Addr),l = [v]/\Same H1 k/\k D=some (.lst (b.map V.ref))/\ColsAt k b (cs.take j))
    ⟨none,[],rfl,Same.new hD,zab,.nil⟩
    (λj l k o ⟨_,_,_,e,_⟩=>⟨_,.ref R[j],SqL.of (e _ _ (C _ _ B)),by rw [yaf,yaa o];rfl⟩)
    (by rintro l k ⟨_,_,_,e,_⟩;exact ⟨_,SqL.of (e _ _ (C _ _ B)),by rw [yab];exact yaj _⟩) ?_ ?_
   ·rintro j l k y S o ⟨v,b,rfl,e,hd,c⟩ ⟨rfl,W⟩;have M:=W _ (SqL.of (e _ _ (C _ _ B)));rw [yaf,yaa o] at M;cases M;have g:j < cs.length:=by omega
    refine (ea rfl ⟨R[j],cs[j],rfl,e _ _ (C _ _ (Paired.at hc j o g)),ao _ (yam g),λr H' u L hR => ?_⟩);have rl:b.length=j:=by rw [yaC c,yaA];omega
    refine ⟨_,L _ _ hd,?_,⟨_,b ++ [r],rfl,(e.trans L).upd hD,by rw [zab,yak];rfl,?_⟩⟩
    ·rw [yab];exact zai (by omega)
    ·rw [yap g];exact Paired.snoc ((c.same L).updL (L _ _ hd)) (by rw [zaf (ne_of hR (L _ _ hd) (λz=>nomatch z))];exact hR)
   ·rintro l k ⟨v,b,rfl,e,hd,c⟩;rw [ql,yaG] at c;refine ⟨D,ea rfl (.inl ⟨SqL.of hd,λt ht => ?_⟩)⟩;have Y:Same k (upd k t (.tup (b.map V.ref))):=Same.new ht;have F:upd k t (.tup (b.map V.ref)) t=some (.tup (b.map V.ref)):=zab;have rl:b.length=cs.length:=yaC c;have p:=c.same Y;have S3:Same H (upd k t (.tup (b.map V.ref))):=(C.trans e).trans Y;generalize upd k t (.tup (b.map V.ref))=S at Y F p S3 ⊢;refine ar (sq1 λaA au => ?_);refine (ea rfl ⟨t,rfl,⟨_,SqT.of F⟩,λD2 I => ?_⟩);refine zaH (J:=Itt K t) b.length (λj l G=>∃ (v:Option V),l = [v]/\Same S G/\G D2=some (.lst ((((cs.take j).map (·.1))).map V.str)))
     ⟨none,rfl,Same.new I,zab⟩
     (λj l G o ⟨_,_,e,_⟩=>⟨_,.ref b[j],SqT.of (e _ _ F),by rw [yaf,yaa o];rfl⟩)
     (by rintro l G ⟨_,_,e,_⟩;exact ⟨_,SqT.of (e _ _ F),by rw [yab];exact yaj _⟩) ?_ ?_
    ·rintro j l G y H5 o ⟨v,rfl,d,m⟩ ⟨rfl,W⟩;have M:=W _ (SqT.of (d _ _ F));rw [yaf,yaa o] at M;cases M;have g:j < cs.length:=by omega
     refine (ea rfl (ixTc (SqT.of (d _ _ (Paired.at p j o g))) rfl ⟨_,m,?_,(ea rfl ⟨d.upd I,?_⟩)⟩))
     ·rw [yab,yab,yaA];exact zai (by omega)
     ·rw [zab,yap g,yak,yak];rfl
    ·rintro l G ⟨v,rfl,d,m⟩;rw [rl,yaG] at m;refine .inl ⟨D2,cs.map (·.1),rfl,m,nd,by rw [yab];omega,λH5 s5 => ?_⟩;have S5:Same H H5:=(S3.trans d).trans s5;refine au ?_;refine (ea rfl (ixTc (SqT.of (S5 _ _ ha)) rfl ⟨n,rfl,hn,λO s6 => ?_⟩));refine (ea rfl ⟨zah (show 2<=100000 by decide),λr u => ?_⟩);have S6:Same H O:=S5.trans s6;have T6:Same S O:=(d.trans s5).trans s6;have U:Same O (upd O r (.tup [.str n,.ref t])):=Same.new u;exact q r t b _ (S6.free u) (S6.trans U) zab (U _ _ (T6 _ _ F)) ((p.same T6).same U)
  ·refine ak (sq1 λaC av => ?_);refine .inr (ea rfl (ixTc (SqT.of ha) rfl ⟨Z,_,1,rfl,.inr B,by rw [yab];omega,by rw [yab];omega,λH1 C=>⟨Z,rfl,⟨_,SqT.of (C _ _ B)⟩,λD hD => ?_⟩⟩));refine zaH (J:=Itt K Z) R.length (λj l k=>∃ (v:Option V) (b:List Addr),l = [v]/\Same H1 k/\k D=some (.lst (b.map V.ref))/\ColsAt k b (cs.take j))
    ⟨none,[],rfl,Same.new hD,zab,.nil⟩
    (λj l k o ⟨_,_,_,e,_⟩=>⟨_,.ref R[j],SqT.of (e _ _ (C _ _ B)),by rw [yaf,yaa o];rfl⟩)
    (by rintro l k ⟨_,_,_,e,_⟩;exact ⟨_,SqT.of (e _ _ (C _ _ B)),by rw [yab];exact yaj _⟩) ?_ ?_
   ·rintro j l k y S o ⟨v,b,rfl,e,hd,c⟩ ⟨rfl,W⟩;have M:=W _ (SqT.of (e _ _ (C _ _ B)));rw [yaf,yaa o] at M;cases M;have g:j < cs.length:=by omega
    refine (ea rfl ⟨R[j],cs[j],rfl,e _ _ (C _ _ (Paired.at hc j o g)),ao _ (yam g),λr H' u L hR => ?_⟩);have rl:b.length=j:=by rw [yaC c,yaA];omega
    refine ⟨_,L _ _ hd,?_,⟨_,b ++ [r],rfl,(e.trans L).upd hD,by rw [zab,yak];rfl,?_⟩⟩
    ·rw [yab];exact zai (by omega)
    ·rw [yap g];exact Paired.snoc ((c.same L).updL (L _ _ hd)) (by rw [zaf (ne_of hR (L _ _ hd) (λz=>nomatch z))];exact hR)
   ·rintro l k ⟨v,b,rfl,e,hd,c⟩;rw [ql,yaG] at c;refine ⟨D,ea rfl (.inl ⟨SqL.of hd,λt ht => ?_⟩)⟩;have Y:Same k (upd k t (.tup (b.map V.ref))):=Same.new ht;have F:upd k t (.tup (b.map V.ref)) t=some (.tup (b.map V.ref)):=zab;have rl:b.length=cs.length:=yaC c;have p:=c.same Y;have S3:Same H (upd k t (.tup (b.map V.ref))):=(C.trans e).trans Y;generalize upd k t (.tup (b.map V.ref))=S at Y F p S3 ⊢;refine av (sq1 λaD as => ?_);refine (ea rfl ⟨t,rfl,⟨_,SqT.of F⟩,λD2 I => ?_⟩);refine zaH (J:=Itt K t) b.length (λj l G=>∃ (v:Option V),l = [v]/\Same S G/\G D2=some (.lst ((((cs.take j).map (·.1))).map V.str)))
     ⟨none,rfl,Same.new I,zab⟩
     (λj l G o ⟨_,_,e,_⟩=>⟨_,.ref b[j],SqT.of (e _ _ F),by rw [yaf,yaa o];rfl⟩)
     (by rintro l G ⟨_,_,e,_⟩;exact ⟨_,SqT.of (e _ _ F),by rw [yab];exact yaj _⟩) ?_ ?_
    ·rintro j l G y H5 o ⟨v,rfl,d,m⟩ ⟨rfl,W⟩;have M:=W _ (SqT.of (d _ _ F));rw [yaf,yaa o] at M;cases M;have g:j < cs.length:=by omega
     refine (ea rfl (ixTc (SqT.of (d _ _ (Paired.at p j o g))) rfl ⟨_,m,?_,(ea rfl ⟨d.upd I,?_⟩)⟩))
     ·rw [yab,yab,yaA];exact zai (by omega)
     ·rw [zab,yap g,yak,yak];rfl
    ·rintro l G ⟨v,rfl,d,m⟩;rw [rl,yaG] at m;refine .inl ⟨D2,cs.map (·.1),rfl,m,nd,by rw [yab];omega,λH5 s5 => ?_⟩;have S5:Same H H5:=(S3.trans d).trans s5;refine as ?_;refine (ea rfl (ixTc (SqT.of (S5 _ _ ha)) rfl ⟨n,rfl,hn,λO s6 => ?_⟩));refine (ea rfl ⟨zah (show 2<=100000 by decide),λr u => ?_⟩);have S6:Same H O:=S5.trans s6;have T6:Same S O:=(d.trans s5).trans s6;have U:Same O (upd O r (.tup [.str n,.ref t])):=Same.new u;exact q r t b _ (S6.free u) (S6.trans U) zab (U _ _ (T6 _ _ F)) ((p.same T6).same U)
abbrev Tab:=Str×List Col
def TabI (H:Hp) (t:Addr) (d:Tab):Prop:=∃ (ca:Addr) (qs:List Addr),H t=some (.tup [.str d.1,.ref ca])/\Sq H ca (qs.map V.ref)/\ColsAt H qs d.2
def TabT (H:Hp) (t:Addr) (d:Tab):Prop:=∃ (ca:Addr) (qs:List Addr),H t=some (.tup [.str d.1,.ref ca])/\H ca=some (.tup (qs.map V.ref))/\ColsAt H qs d.2
theorem TabI.same {H H':Hp} {t:Addr} {d:Tab} (h:TabI H t d) (s:Same H H'):TabI H' t d:=by
 obtain ⟨e,f,a,b,c⟩:=h;exact ⟨e,f,s _ _ a,b.same s,c.same s⟩
theorem TabT.same {H H':Hp} {t:Addr} {d:Tab} (h:TabT H t d) (s:Same H H'):TabT H' t d:=by
 obtain ⟨e,f,a,b,c⟩:=h;exact ⟨e,f,s _ _ a,s _ _ b,c.same s⟩
def TabsI (H:Hp) (ts:List Addr) (ds:List Tab):Prop:=Paired (TabI H) ts ds
def TabsT (H:Hp) (ts:List Addr) (ds:List Tab):Prop:=Paired (TabT H) ts ds
theorem TabsT.same {H H':Hp} {ts:List Addr} {ds:List Tab} (h:TabsT H ts ds) (s:Same H H'):TabsT H' ts ds:=Paired.mapP h λ_ _ e=>e.same s
theorem TabT.updL {H:Hp} {t D:Addr} {d:Tab} {xs:List V} {o:HO} (h:TabT H t d) (hd:H D=some (.lst xs)):TabT (upd H D o) t d:=by
 obtain ⟨e,f,a,b,c⟩:=h;exact ⟨e,f,by rw [zaf (ne_of a hd (λz=>nomatch z))];exact a,by rw [zaf (ne_of b hd (λz=>nomatch z))];exact b,c.updL hd⟩
theorem TabsT.updL {H:Hp} {ts:List Addr} {D:Addr} {ds:List Tab} {xs:List V} {o:HO} (h:TabsT H ts ds) (hd:H D=some (.lst xs)):TabsT (upd H D o) ts ds:=Paired.mapP h λ_ _ e=>e.updL hd
def zaY (ds:List Tab):Prop:=1<=ds.length/\ds.length<=4/\(∀ d∈ds,okTab d.1 d.2)/\(ds.map (·.1)).Nodup
def zfn:Sp:=λvs H Q _=>∃ (a:Addr) (ts:List Addr) (tabs:List Tab),vs = [.ref a]/\Sq H a (ts.map V.ref)/\TabsI H ts tabs/\zaY tabs /\
 ∀ (r:Addr) (o:Obj) (ts':List Addr) (H':Hp),H r=none->Same H H'->H' r=some (.frz o (.tup (ts'.map V.ref)))->o.cls = .type "tuple"->o.dict=none->TabsT H' ts' tabs->Q (.ref r) H'
theorem zfl (T:Txt K mg):FnOk P w K mg base CX0 6 T.tables_from.f T.tables_from.fd ["thing"] zfn:=by
 refine T.tables_from.fn.ok sc_tables_from (λvs H Q E h => ?_) (λaA A outer s H vs Q E hr h => ?_)
 ·obtain ⟨a,ts,tabs,rfl,_⟩:=h;rfl
 ·obtain ⟨a,ts,tabs,rfl,B,hi,⟨l0,l1,ah,nd⟩,q⟩:=h;have tl:ts.length=tabs.length:=yaC hi;refine ⟨_,((zad (zas (i:=1) sc_tables_from.nd rfl (yaL rfl) (zaQ (zex (K:=K) rfl) (by rfl) T.b_tuple zcF (zaa (za7 (N := ["part"]) (own:=1) (caps := []) rfl (by kernel_rfl) (by kernel_rfl) (pi_or (zaA (K:=K) rfl (zaq (zb2 T) (hr.mono (by decide)) rfl (zaa (pv 0) (zaa zac zae)))) (zcy (K:=K) rfl (zaq (zb2 T) (hr.mono (by decide)) rfl (zaa (pv 0) (zaa zac zae))))) (λ_ _ _ _ _=>zal (i:=0) (show List.Nodup (["part"]:List Str) by decide +kernel) rfl (yaL rfl)) (λ_ _ _ _ _=>zaW) (λ_ _ _ _ _=>(zaq (zf1 T) (hr.mono (by decide)) rfl (zaa (pv 0) zae)))) zae)))
   (zad (zaI (zaq (zbW T) (hr.mono (by decide)) rfl (zaa (za7 (N := ["table"]) (own:=1) (caps := []) rfl (by kernel_rfl) (by kernel_rfl) (zcy (K:=K) rfl (pv 1)) (λ_ _ _ _ _=>zal (i:=0) (show List.Nodup (["table"]:List Str) by decide +kernel) rfl (yaL rfl)) (λ_ _ _ _ _=>zaW) (λ_ _ _ _ _=>(pe_ix (zak (K:=K) rfl) (pv 0) zac (λ_ _=>rfl)))) zae)))
   (zag (zao (pv 1)))))),?_⟩
  rcases B with B | B
  ·refine sq1 λaB al => ?_;refine .inl (ea rfl ⟨a,_,1,rfl,.inl B,by rw [yab];omega,by rw [yab];omega,λH1 z=>⟨a,rfl,⟨_,SqL.of (z _ _ B)⟩,λD hD => ?_⟩⟩);refine zaH (J:=Itl K a) ts.length (λj l g=>∃ (v:Option V) (b:List Addr),l = [v]/\Same H1 g/\g D=some (.lst (b.map V.ref))/\TabsT g b (tabs.take j))
    ⟨none,[],rfl,Same.new hD,zab,.nil⟩
    (λj l g n ⟨_,_,_,c,_⟩=>⟨_,.ref ts[j],SqL.of (c _ _ (z _ _ B)),by rw [yaf,yaa n];rfl⟩)
    (by rintro l g ⟨_,_,_,c,_⟩;exact ⟨_,SqL.of (c _ _ (z _ _ B)),by rw [yab];exact yaj _⟩) ?_ ?_
   ·rintro j l g y I n ⟨v,b,rfl,c,hd,d⟩ ⟨rfl,S⟩;have G:=S _ (SqL.of (c _ _ (z _ _ B)));rw [yaf,yaa n] at G;cases G;have e:j < tabs.length:=by omega
    obtain ⟨ca,qs,Z,t2,t3⟩:=(Paired.at hi j n e).same (z.trans c);refine (ea rfl ⟨ts[j],ca,qs,tabs[j].1,tabs[j].2,rfl,Z,t2,t3,ah _ (yam e),λr W R H' ar F h1 h2 h3 => ?_⟩);have rl:b.length=j:=by rw [yaC d,yaA];omega
    refine ⟨_,F _ _ hd,?_,⟨_,b ++ [r],rfl,(c.trans F).upd hD,by rw [zab,yak];rfl,?_⟩⟩
    ·rw [yab];exact zai (by omega)
    ·rw [yap e];exact Paired.snoc ((d.same F).updL (F _ _ hd)) (TabT.updL ⟨W,R,h1,h2,h3⟩ (F _ _ hd))
   ·rintro l g ⟨v,b,rfl,c,hd,d⟩;rw [tl,yaG] at d;refine ⟨D,ea rfl ⟨SqL.of hd,λt o ht oc od => ?_⟩⟩;have U:Same g (upd g t (.frz o (.tup (b.map V.ref)))):=Same.new ht;have Y:upd g t (.frz o (.tup (b.map V.ref))) t=some (.frz o (.tup (b.map V.ref))):=zab;have rl:b.length=tabs.length:=yaC d;have u:=d.same U;have S3:Same H (upd g t (.frz o (.tup (b.map V.ref)))):=(z.trans c).trans U;have tf:H t=none:=(z.trans c).free ht;generalize upd g t (.frz o (.tup (b.map V.ref)))=I at U Y u S3 ⊢;have L:∀ {p:Hp},Same I p->SqT K p t (b.map V.ref):=λs => .inl (.inr ⟨o,s _ _ Y⟩);refine al (sq1 λaz aq => ?_);refine (ea rfl ⟨t,rfl,⟨_,L (Same.refl _)⟩,λD2 C => ?_⟩);refine zaH (J:=Itt K t) b.length (λj l p=>∃ (v:Option V),l = [v]/\Same I p/\p D2=some (.lst ((((tabs.take j).map (·.1))).map V.str)))
     ⟨none,rfl,Same.new C,zab⟩
     (λj l p n ⟨_,_,c,_⟩=>⟨_,.ref b[j],L c,by rw [yaf,yaa n];rfl⟩)
     (by rintro l p ⟨_,_,c,_⟩;exact ⟨_,L c,by rw [yab];exact yaj _⟩) ?_ ?_
    ·rintro j l p y O n ⟨v,rfl,k,m⟩ ⟨rfl,S⟩;have G:=S _ (L k);rw [yaf,yaa n] at G;cases G;have e:j < tabs.length:=by omega
     obtain ⟨ca,qs,Z,_,_⟩:=(Paired.at u j n e).same k;refine (ea rfl (ixTc (SqT.of Z) rfl ⟨_,m,?_,(ea rfl ⟨k.upd C,?_⟩)⟩))
     ·rw [yab,yab,yaA];exact zai (by omega)
     ·rw [zab,yap e,yak,yak];rfl
    ·rintro l p ⟨v,rfl,k,m⟩;rw [rl,yaG] at m;refine .inl ⟨D2,tabs.map (·.1),rfl,m,nd,by rw [yab];omega,λO s5 => ?_⟩;have M:Same I O:=k.trans s5;refine aq ?_;exact (ea rfl (q t o b O tf (S3.trans M) (M _ _ Y) oc od (u.same M)))
  ·refine sq1 λaC ao => ?_;refine .inr (ea rfl ⟨a,_,1,rfl,.inr B,by rw [yab];omega,by rw [yab];omega,λH1 z=>⟨a,rfl,⟨_,SqT.of (z _ _ B)⟩,λD hD => ?_⟩⟩);refine zaH (J:=Itt K a) ts.length (λj l g=>∃ (v:Option V) (b:List Addr),l = [v]/\Same H1 g/\g D=some (.lst (b.map V.ref))/\TabsT g b (tabs.take j))
    ⟨none,[],rfl,Same.new hD,zab,.nil⟩
    (λj l g n ⟨_,_,_,c,_⟩=>⟨_,.ref ts[j],SqT.of (c _ _ (z _ _ B)),by rw [yaf,yaa n];rfl⟩)
    (by rintro l g ⟨_,_,_,c,_⟩;exact ⟨_,SqT.of (c _ _ (z _ _ B)),by rw [yab];exact yaj _⟩) ?_ ?_
   ·rintro j l g y I n ⟨v,b,rfl,c,hd,d⟩ ⟨rfl,S⟩;have G:=S _ (SqT.of (c _ _ (z _ _ B)));rw [yaf,yaa n] at G;cases G;have e:j < tabs.length:=by omega
    obtain ⟨ca,qs,Z,t2,t3⟩:=(Paired.at hi j n e).same (z.trans c);refine (ea rfl ⟨ts[j],ca,qs,tabs[j].1,tabs[j].2,rfl,Z,t2,t3,ah _ (yam e),λr W R H' ar F h1 h2 h3 => ?_⟩);have rl:b.length=j:=by rw [yaC d,yaA];omega
    refine ⟨_,F _ _ hd,?_,⟨_,b ++ [r],rfl,(c.trans F).upd hD,by rw [zab,yak];rfl,?_⟩⟩
    ·rw [yab];exact zai (by omega)
    ·rw [yap e];exact Paired.snoc ((d.same F).updL (F _ _ hd)) (TabT.updL ⟨W,R,h1,h2,h3⟩ (F _ _ hd))
   ·rintro l g ⟨v,b,rfl,c,hd,d⟩;rw [tl,yaG] at d;refine ⟨D,ea rfl ⟨SqL.of hd,λt o ht oc od => ?_⟩⟩;have U:Same g (upd g t (.frz o (.tup (b.map V.ref)))):=Same.new ht;have Y:upd g t (.frz o (.tup (b.map V.ref))) t=some (.frz o (.tup (b.map V.ref))):=zab;have rl:b.length=tabs.length:=yaC d;have u:=d.same U;have S3:Same H (upd g t (.frz o (.tup (b.map V.ref)))):=(z.trans c).trans U;have tf:H t=none:=(z.trans c).free ht;generalize upd g t (.frz o (.tup (b.map V.ref)))=I at U Y u S3 ⊢;have L:∀ {p:Hp},Same I p->SqT K p t (b.map V.ref):=λs => .inl (.inr ⟨o,s _ _ Y⟩);refine ao (sq1 λay ap => ?_);refine (ea rfl ⟨t,rfl,⟨_,L (Same.refl _)⟩,λD2 C => ?_⟩);refine zaH (J:=Itt K t) b.length (λj l p=>∃ (v:Option V),l = [v]/\Same I p/\p D2=some (.lst ((((tabs.take j).map (·.1))).map V.str)))
     ⟨none,rfl,Same.new C,zab⟩
     (λj l p n ⟨_,_,c,_⟩=>⟨_,.ref b[j],L c,by rw [yaf,yaa n];rfl⟩)
     (by rintro l p ⟨_,_,c,_⟩;exact ⟨_,L c,by rw [yab];exact yaj _⟩) ?_ ?_
    ·rintro j l p y O n ⟨v,rfl,k,m⟩ ⟨rfl,S⟩;have G:=S _ (L k);rw [yaf,yaa n] at G;cases G;have e:j < tabs.length:=by omega
     obtain ⟨ca,qs,Z,_,_⟩:=(Paired.at u j n e).same k;refine (ea rfl (ixTc (SqT.of Z) rfl ⟨_,m,?_,(ea rfl ⟨k.upd C,?_⟩)⟩))
     ·rw [yab,yab,yaA];exact zai (by omega)
     ·rw [zab,yap e,yak,yak];rfl
    ·rintro l p ⟨v,rfl,k,m⟩;rw [rl,yaG] at m;refine .inl ⟨D2,tabs.map (·.1),rfl,m,nd,by rw [yab];omega,λO s5 => ?_⟩;have M:Same I O:=k.trans s5;refine ap ?_;exact (ea rfl (q t o b O tf (S3.trans M) (M _ _ Y) oc od (u.same M)))
theorem inV_str {k:Str}:∀ {L:List Str},inV (.str k) (L.map V.str)=decide (k∈L)
 | []=>rfl
 | y :: L=>by
  have a:=inV_str (k:=k) (L:=L);unfold inV at a ⊢;rw [yaw,ydH,a];by_cases e:y=k
  ·subst e;simp [eqV]
  ·have b:¬ k=y:=λz=>e z.symm;simp [eqV,e,b]
theorem strs_flat (L:List Str):(L.map V.str).all flatV=true:=by
 rw [ydx,yaX];intro x _;rfl
theorem cut_one {xs:List V} (h:1<=xs.length):cutV xs (some 1) none=xs.drop 1/\¬ (HT.sIx xs.length 0 (some 1)=0/\HT.sIx xs.length xs.length none=xs.length):=by
 have e:HT.sIx xs.length 0 (some 1)=1:=by unfold HT.sIx;simp;omega
 have e2:HT.sIx xs.length xs.length none=xs.length:=rfl;refine ⟨?_,λz=>by rw [e] at z;exact absurd z.1 (by decide)⟩;unfold cutV;rw [e,e2,ydr (by rw [ybk];exact yaj _)]
def okOrd (ds:List Tab) (c:Col):Prop:=isNm c.1=true/\isNm c.2=true/\∃ (k:Nat) (hk:k < ds.length),ds[k].1=c.1/\c.2∈(ds[k].2.drop 1).map (·.1)
def zfX:Sp:=λvs H Q _=>∃ (a b:Addr) (o:Obj) (ts:List Addr) (tabs:List Tab) (c:Col),vs = [.ref a,.ref b]/\H a=some (.frz o (.tup (ts.map V.ref)))/\TabsT H ts tabs/\zaY tabs/\H b=some (.tup (colV c))/\okOrd tabs c /\
 ∀ (r:Addr) (H':Hp),H r=none->Same H H'->H' r=some (.tup (colV c))->Q (.ref r) H'
theorem zf7 (T:Txt K mg):FnOk P w K mg base CX0 4 T.order_from.f T.order_from.fd ["tables", "thing"] zfX:=by
 refine T.order_from.fn.ok sc_order_from (λvs H Q E h => ?_) (λaD A outer s H vs Q E hr h => ?_)
 ·obtain ⟨a,b,o,ts,tabs,c,rfl,_⟩:=h;rfl
 ·obtain ⟨a,b,o,ts,tabs,c,rfl,ha,hT,⟨l0,l1,ai,nd⟩,hb,⟨n1,n2,k,hk,k1,k2⟩,q⟩:=h;have tl:ts.length=tabs.length:=yaC hT;refine ⟨_,((zad (zas (i:=2) sc_order_from.nd rfl (yaL rfl) (zaq (zdD T) (hr.mono (by decide)) rfl (zaa (pv 1) zae)))
   (zad (zas (i:=3) sc_order_from.nd rfl (yaL rfl) (zaU (zaa (zaq (zbP T) (hr.mono (by decide)) rfl (zaa (pe_ix (zak (K:=K) rfl) (pv 2) zac (λ_ _=>rfl)) zae)) (zaa (zaq (zbP T) (hr.mono (by decide)) rfl (zaa (pe_ix (zak (K:=K) rfl) (pv 2) zac (λ_ _=>rfl)) zae)) zae))))
   (zad (zaV yaQ rfl (zcy (K:=K) rfl (pv 0)) (zbe (K:=K) (n:=2) rfl rfl (zat ((zal (i:=4) sc_order_from.nd rfl (yaL rfl))) (zat ((zal (i:=5) sc_order_from.nd rfl (yaL rfl))) zbj))) (zag (ps_if (PW.pt (zgn (zaz op_eq (pv 4) (pe_ix (zak (K:=K) rfl) (pv 3) zac (λ_ _=>rfl)) (zaD _)) (zeP (zaz (ziO (K:=K) rfl) (pe_ix (zak (K:=K) rfl) (pv 3) zac (λ_ _=>rfl)) (za7 (N := ["column"]) (own:=1) (caps := []) rfl (by kernel_rfl) (by kernel_rfl) (zcy (K:=K) rfl (zbq (sl_tupK (K:=K) rfl) (pv 5) (zbf zac) zdx)) (λ_ _ _ _ _=>zal (i:=0) (show List.Nodup (["column"]:List Str) by decide +kernel) rfl (yaL rfl)) (λ_ _ _ _ _=>zaW) (λ_ _ _ _ _=>(pe_ix (zak (K:=K) rfl) (pv 0) zac (λ_ _=>rfl)))) (by with_unfolding_all rfl))))) (zag (zao (pv 3))) zau)))
   (zag zbp))))),?_⟩
  refine sq1 λaF Y => ?_;refine (ea rfl ⟨b,_,ea rfl ⟨hb,?_⟩⟩);refine Y (sq1 λaz ac => ?_);refine (ea rfl (ixTc (SqT.of hb) rfl (ea rfl ⟨n1,λH1 s1 => ?_⟩)));refine (ea rfl (ixTc (SqT.of (s1 _ _ hb)) rfl (ea rfl ⟨n2,λR s2=>⟨zah (show 2<=100000 by decide),λr ad => ?_⟩⟩)));have S2:Same H R:=s1.trans s2;have rf:H r=none:=S2.free ad;have S:Same H (upd R r (.tup [.str c.1,.str c.2])):=S2.upd rf;have L:upd R r (.tup [.str c.1,.str c.2]) r=some (.tup [.str c.1,.str c.2]):=zab;generalize upd R r (.tup [.str c.1,.str c.2])=H3 at S L ⊢;have sq:∀ {l:Hp},Same H3 l->SqT K l a (ts.map V.ref):=λs => .inl (.inr ⟨o,s _ _ (S _ _ ha)⟩);refine ac (sq1 λaH Z => ?_);refine ⟨_,rfl,a,rfl,⟨_,sq (Same.refl _)⟩,for_tup (K:=K) (a:=a) (xs:=ts.map V.ref) (λi M l=>i<=k/\∃ U v5,M = [some (.ref a),some (.ref b),some (.ref b),some (.ref r),U,v5]/\Same H3 l)
   ⟨yaW _,none,none,rfl,Same.refl _⟩ (by rintro i M l _ ⟨_,_,_,_,g⟩;exact sq g) ?_ ?_⟩
  ·rintro i x M l hx ⟨B,U,v5,rfl,g⟩;have hi:i < ts.length:=by omega
   have F:i < tabs.length:=by omega
   rw [yaf,yaa hi] at hx;cases hx;obtain ⟨ca,m,t1,t2,t3⟩:=((Paired.at hT i hi F).same S).same g;refine ⟨ts[i],ea rfl ⟨SqT.of t1,rfl,_,ea rfl ⟨_,ea rfl ⟨rfl,?_⟩⟩⟩⟩;refine (ea rfl (ea rfl (ixTc (SqT.of (g _ _ L)) rfl ⟨rfl,ea rfl ?_⟩)));by_cases e:i=k
   ·subst e;refine ite2 (λ_ => ?_) (λz=>absurd (decide_eq_true (by rw [k1])) z);have G:=ai _ (yam F);have qn:m.length=tabs[i].2.length:=yaC t3;obtain ⟨af,nw⟩:=cut_one (xs:=m.map V.ref) (by rw [yab,qn];exact G.2.1);refine (ea rfl (ixTc (SqT.of (g _ _ L)) rfl (ea rfl (ea rfl ⟨ca,ea rfl ⟨SqT.of t2,nw,λp hp=>⟨p,rfl,⟨_,SqT.of zab⟩,λD I => ?_⟩⟩⟩))));rw [af] at I ⊢;have W:Same l (upd l p (.tup ((m.map V.ref).drop 1))):=Same.new hp;have O:upd l p (.tup ((m.map V.ref).drop 1)) p=some (.tup ((m.map V.ref).drop 1)):=zab;have t4:=t3.same W;have R5:=W _ _ (g _ _ L);have S5:Same H (upd l p (.tup ((m.map V.ref).drop 1))):=(S.trans g).trans W;generalize upd l p (.tup ((m.map V.ref).drop 1))=H5 at I O t4 R5 S5 ⊢;refine zaH (J:=Itt K p) (m.length - 1) (λj C u=>∃ (v:Option V),C = [v]/\Same H5 u/\u D=some (.lst (((((tabs[i].2.drop 1).take j)).map (·.1)).map V.str)))
     ⟨none,rfl,Same.new I,zab⟩
     (λj C u hj ⟨_,_,g,_⟩=>⟨_,.ref (m[j+1]'(by omega)),SqT.of (g _ _ O),by rw [yem,yaf,yfr,yaa (show j+1 < m.length by omega)];rfl⟩)
     (by rintro C u ⟨_,_,g,_⟩;exact ⟨_,SqT.of (g _ _ O),by rw [ybk,yab];exact yaj _⟩) ?_ ?_
    ·rintro j C u y H7 hj ⟨v,rfl,d,t⟩ ⟨rfl,hy⟩;have ey:=hy _ (SqT.of (d _ _ O));rw [yem,yaf,yfr,yaa (show j+1 < m.length by omega)] at ey;cases ey;have ab:j+1 < tabs[i].2.length:=by omega
     have ae:j < (tabs[i].2.drop 1).length:=by rw [ybk];omega
     refine (ea rfl (ixTc (SqT.of (d _ _ (Paired.at t4 (j+1) (by omega) ab))) rfl ⟨_,t,?_,(ea rfl ⟨d.upd I,?_⟩)⟩))
     ·rw [yab,yab,yaA];have:=G.2.2.1;exact zai (by omega)
     ·rw [zab,yap ae,yak,yak,List.getElem_drop];simp only [yfr 1 j];rfl
    ·rintro C u ⟨v,rfl,d,t⟩;rw [qn,<- ybk,yaG] at t;refine ⟨D,ea rfl ⟨.inl (SqL.of t),rfl,strs_flat _,ea rfl ?_⟩⟩;rw [if_neg (by decide),inV_str,decide_eq_true k2];exact iteT (ea rfl (q r u rf (S5.trans d) (d _ _ R5)))
   ·refine ite2 (λz=>absurd (of_decide_eq_true z) λy => ?_) (λ_=>iteF ⟨by omega,_,ea rfl g⟩);injection y with y;have e1:(tabs.map (·.1))[i]'(by simp;omega)=(tabs.map (·.1))[k]'(by simp;omega):=by
     rw [ybl,ybl,k1];exact y
    exact e ((yb4 (h₀:=by simp;omega) (h₁:=by simp;omega) nd).mp e1)
  ·rintro M l ⟨B,U,v5,rfl,g⟩;rw [yab] at B;refine Z ?_;exact absurd B (by omega)
def OrdsI (H:Hp) (x:V) (ords:List Col):Prop:=(x = .non/\ords = [])\/∃ (b:Addr) (qs:List Addr),x = .ref b/\Sq H b (qs.map V.ref)/\ColsAt H qs ords
theorem OrdsI.same {H H':Hp} {x:V} {a:List Col} (h:OrdsI H x a) (s:Same H H'):OrdsI H' x a:=h.imp id (by rintro ⟨b,d,e,q,c⟩;exact ⟨b,d,e,q.same s,c.same s⟩)
def zfI (ds:List Tab) (ords:List Col):Prop:=ords.length<=4/\ords.Nodup/\∀ c∈ords,okOrd ds c
def zfv:Sp:=λvs H Q _=>∃ (a:Addr) (x:V) (o:Obj) (ts:List Addr) (tabs:List Tab) (ords:List Col),vs = [.ref a,x]/\H a=some (.frz o (.tup (ts.map V.ref)))/\TabsT H ts tabs/\zaY tabs/\OrdsI H x ords/\zfI tabs ords /\
 ∀ (r:Addr) (rs:List Addr) (H':Hp),H r=none->Same H H'->H' r=some (.tup (rs.map V.ref))->ColsAt H' rs ords->Q (.ref r) H'
theorem zft (T:Txt K mg):FnOk P w K mg base CX0 5 T.orders_from.f T.orders_from.fd ["tables", "thing"] zfv:=by
 refine T.orders_from.fn.ok sc_orders_from (λvs H Q E h => ?_) (λay A outer s H vs Q E hr h => ?_)
 ·obtain ⟨a,x,o,ts,tabs,c,rfl,_⟩:=h;rfl
 ·obtain ⟨a,x,o,ts,tabs,c,rfl,ha,hT,aa,hx,⟨l1,nd,ho⟩,q⟩:=h;refine ⟨_,((zad (ps_if (zdg (zid (pv 1))) (zag (zao (zaU zae))) zau)
   (zad (zas (i:=2) sc_orders_from.nd rfl (yaL rfl) (zaQ (zbY (K:=K) rfl) (by rfl) T.b_tuple zcF (zaa (za7 (N := ["part", "tables"]) (own:=1) (caps := [0]) rfl (by kernel_rfl) (by kernel_rfl) (pi_or (zaA (K:=K) rfl (zaq (zb2 T) (hr.mono (by decide)) rfl (zaa (pv 1) (zaa zac zae)))) (zcy (K:=K) rfl (zaq (zb2 T) (hr.mono (by decide)) rfl (zaa (pv 1) (zaa zac zae))))) (λ_ _ _ _ _=>zal (i:=0) (show List.Nodup (["part", "tables"]:List Str) by decide +kernel) rfl (yaL rfl)) (λ_ _ _ _ _=>zaW) (λ_ _ _ _ _=>(zaq (zf7 T) (hr.mono (by decide)) rfl (zaa (pv 1) (zaa (pv 0) zae))))) zae)))
   (zad (zaI (zaq (zbW T) (hr.mono (by decide)) rfl (zaa (pv 2) zae)))
   (zag (zao (pv 2))))))),?_⟩
  rcases hx with ⟨rfl,rfl⟩ | ⟨b,M,rfl,u,hc⟩
  ·refine sq1 λaz aq => ?_;refine (ea rfl (ea rfl (iteT ⟨yaW _,λr G => ?_⟩)));exact q r [] _ G (Same.new G) zab .nil
  ·have ql:M.length=c.length:=yaC hc;refine sq1 λas W => ?_;refine (ea rfl (ea rfl (ite2 (λz=>absurd z (by simp)) (λ_ => ?_))));rcases u with u | u
   ·refine W (sq1 λaB ag => ?_);refine .inl (ea rfl ⟨b,_,0,rfl,.inl u,by omega,by rw [yab];omega,λH1 n=>⟨b,rfl,⟨_,SqL.of (n _ _ u)⟩,λD R => ?_⟩⟩);refine zaH (J:=Itl K b) M.length (λj B g=>∃ (v:Option V) (d:List Addr),B = [v,some (.ref a)]/\Same H1 g/\g D=some (.lst (d.map V.ref))/\ColsAt g d (c.take j))
     ⟨none,[],rfl,Same.new R,zab,.nil⟩
     (λj B g F ⟨_,_,_,k,_⟩=>⟨_,.ref M[j],SqL.of (k _ _ (n _ _ u)),by rw [yaf,yaa F];rfl⟩)
     (by rintro B g ⟨_,_,_,k,_⟩;exact ⟨_,SqL.of (k _ _ (n _ _ u)),by rw [yab];exact yaj _⟩) ?_ ?_
    ·rintro j B g y H3 F ⟨v,d,rfl,k,hd,e⟩ ⟨rfl,hy⟩;have Z:=hy _ (SqL.of (k _ _ (n _ _ u)));rw [yaf,yaa F] at Z;cases Z;have p:j < c.length:=by omega
     have L:=n.trans k;refine (ea rfl (ea rfl ⟨a,M[j],o,ts,tabs,c[j],rfl,L _ _ ha,hT.same L,aa,L _ _ (Paired.at hc j F p),ho _ (yam p),λr H' G C U => ?_⟩));have rl:d.length=j:=by rw [yaC e,yaA];omega
     refine ⟨_,C _ _ hd,?_,⟨_,d ++ [r],rfl,(k.trans C).upd R,by rw [zab,yak];rfl,?_⟩⟩
     ·rw [yab];exact zai (by omega)
     ·rw [yap p];exact Paired.snoc ((e.same C).updL (C _ _ hd)) (by rw [zaf (ne_of U (C _ _ hd) (λz=>nomatch z))];exact U)
    ·rintro B g ⟨v,d,rfl,k,hd,e⟩;rw [ql,yaG] at e;refine ⟨D,ea rfl (.inl ⟨SqL.of hd,λt S => ?_⟩)⟩;have O:Same g (upd g t (.tup (d.map V.ref))):=Same.new S;have l:upd g t (.tup (d.map V.ref)) t=some (.tup (d.map V.ref)):=zab;have rl:d.length=c.length:=yaC e;have m:=e.same O;have tf:H t=none:=(n.trans k).free S;have Y:Same H (upd g t (.tup (d.map V.ref))):=(n.trans k).trans O;generalize upd g t (.tup (d.map V.ref))=H3 at O l m Y ⊢;refine ag (sq1 λar aj => ?_);refine (ea rfl (.inr ⟨t,d,c,rfl,l,m,nd,by omega,λH4 I => ?_⟩));refine aj ?_;exact (ea rfl (q t d H4 tf (Y.trans I) (I _ _ l) (m.same I)))
   ·refine W (sq1 λau ak => ?_);refine .inr (ea rfl ⟨b,_,0,rfl,.inr u,by omega,by rw [yab];omega,λH1 n=>⟨b,rfl,⟨_,SqT.of (n _ _ u)⟩,λD R => ?_⟩⟩);refine zaH (J:=Itt K b) M.length (λj B g=>∃ (v:Option V) (d:List Addr),B = [v,some (.ref a)]/\Same H1 g/\g D=some (.lst (d.map V.ref))/\ColsAt g d (c.take j))
     ⟨none,[],rfl,Same.new R,zab,.nil⟩
     (λj B g F ⟨_,_,_,k,_⟩=>⟨_,.ref M[j],SqT.of (k _ _ (n _ _ u)),by rw [yaf,yaa F];rfl⟩)
     (by rintro B g ⟨_,_,_,k,_⟩;exact ⟨_,SqT.of (k _ _ (n _ _ u)),by rw [yab];exact yaj _⟩) ?_ ?_
    ·rintro j B g y H3 F ⟨v,d,rfl,k,hd,e⟩ ⟨rfl,hy⟩;have Z:=hy _ (SqT.of (k _ _ (n _ _ u)));rw [yaf,yaa F] at Z;cases Z;have p:j < c.length:=by omega
     have L:=n.trans k;refine (ea rfl (ea rfl ⟨a,M[j],o,ts,tabs,c[j],rfl,L _ _ ha,hT.same L,aa,L _ _ (Paired.at hc j F p),ho _ (yam p),λr H' G C U => ?_⟩));have rl:d.length=j:=by rw [yaC e,yaA];omega
     refine ⟨_,C _ _ hd,?_,⟨_,d ++ [r],rfl,(k.trans C).upd R,by rw [zab,yak];rfl,?_⟩⟩
     ·rw [yab];exact zai (by omega)
     ·rw [yap p];exact Paired.snoc ((e.same C).updL (C _ _ hd)) (by rw [zaf (ne_of U (C _ _ hd) (λz=>nomatch z))];exact U)
    ·rintro B g ⟨v,d,rfl,k,hd,e⟩;rw [ql,yaG] at e;refine ⟨D,ea rfl (.inl ⟨SqL.of hd,λt S => ?_⟩)⟩;have O:Same g (upd g t (.tup (d.map V.ref))):=Same.new S;have l:upd g t (.tup (d.map V.ref)) t=some (.tup (d.map V.ref)):=zab;have rl:d.length=c.length:=yaC e;have m:=e.same O;have tf:H t=none:=(n.trans k).free S;have Y:Same H (upd g t (.tup (d.map V.ref))):=(n.trans k).trans O;generalize upd g t (.tup (d.map V.ref))=H3 at O l m Y ⊢;refine ak (sq1 λav ai => ?_);refine (ea rfl (.inr ⟨t,d,c,rfl,l,m,nd,by omega,λH4 I => ?_⟩));refine ai ?_;exact (ea rfl (q t d H4 tf (Y.trans I) (I _ _ l) (m.same I)))
def scF (tt oo dd:Addr):List (Str×V) := [("tables",.ref tt),("orders",.ref oo),("columns",.ref dd)]
def kvsOf (ds:List Tab) (cas:List Addr):List (Key×V):=(ds.zip cas).map λp=>(.inr p.1.1,.ref p.2)
def TabsC (H:Hp) (ts cas:List Addr) (ds:List Tab):Prop:=Paired (λ(p:Addr×Addr) (d:Tab)=>∃ qs:List Addr,H p.1=some (.tup [.str d.1,.ref p.2])/\H p.2=some (.tup (qs.map V.ref))/\ColsAt H qs d.2) (ts.zip cas) ds/\ts.length=ds.length/\cas.length=ds.length
structure SchemaAt (C:Addr) (H:Hp) (p:Addr) (tabs:List Tab) (ords:List Col):Prop where
 ex:∃ (dx tt oo dd:Addr) (o:Obj) (ts cas rs:List Addr),H p=some (.ins C dx (scF tt oo dd))/\H tt=some (.frz o (.tup (ts.map V.ref)))/\TabsC H ts cas tabs/\H oo=some (.tup (rs.map V.ref))/\ColsAt H rs ords/\H dd=some (.dK (kvsOf tabs cas))
theorem len3 {α:Type} {l:List α} (h:l.length=3):∃ a b c,l = [a,b,c]:=by
 obtain ⟨a,l,rfl⟩:=yct h;obtain ⟨b,l,rfl⟩:=yct (yb5 h);obtain ⟨c,rfl⟩:=List.length_eq_one_iff.mp (yb5 (yb5 h));exact ⟨a,b,c,rfl⟩
theorem zgH (T:Txt K mg):Binds K T.Schema___init__.fd ["self", "tables", "orders"] []:=by
 obtain ⟨h,od,kV,g,i,l,d,ct,e,a,j,c⟩:=T.Schema___init__.fn.ex;rw [a];intro s us f b;rw [ych] at b ⊢;obtain ⟨x,y,z,rfl⟩:=len3 b;refine yff (T:=T.Schema___init__.t) (o:=T.Schema___init__.o) (items := #[.none]) (n:=T.Schema___init__.n) (k := ?k) rfl (f _ _ T.Schema___init__.lo) T.Schema___init__.da ?h1 ?h2
 case h1=>rfl
 case h2=>rfl
structure Kept (H H':Hp):Prop where
 tu:∀ b xs,H b=some (.tup xs)->H' b=some (.tup xs)
 ls:∀ b xs,H b=some (.lst xs)->H' b=some (.lst xs)
 fr:∀ b o u,H b=some (.frz o u)->H' b=some (.frz o u)
 dk:∀ b kvs,H b=some (.dK kvs)->H' b=some (.dK kvs)
theorem Kept.of {H H':Hp} (s:Same H H'):Kept H H':=⟨λ_ _ e=>s _ _ e,λ_ _ e=>s _ _ e,λ_ _ _ e=>s _ _ e,λ_ _ e=>s _ _ e⟩
theorem Kept.trans {H H' a:Hp} (s:Kept H H') (t:Kept H' a):Kept H a:=⟨λb x e=>t.tu b x (s.tu b x e),λb x e=>t.ls b x (s.ls b x e),λb o u e=>t.fr b o u (s.fr b o u e),λb x e=>t.dk b x (s.dk b x e)⟩
theorem Kept.ins {H:Hp} {p C dx:Addr} {fs:List (Str×V)} {o:HO} (h:H p=some (.ins C dx fs)):Kept H (upd H p o) :=
 ⟨λb _ e=>(zaf (ne_of e h (λz=>nomatch z))).trans e,λb _ e=>(zaf (ne_of e h (λz=>nomatch z))).trans e,λb _ _ e=>(zaf (ne_of e h (λz=>nomatch z))).trans e,λb _ e=>(zaf (ne_of e h (λz=>nomatch z))).trans e⟩
section
variable {H H':Hp}
theorem ColsAt.kept {a:List Addr} {cs:List Col} (h:ColsAt H a cs) (s:Kept H H'):ColsAt H' a cs:=Paired.mapP h λ_ _ e=>s.tu _ _ e
theorem Sq.kept {a:Addr} {xs:List V} (h:Sq H a xs) (s:Kept H H'):Sq H' a xs:=h.imp (s.ls _ _) (s.tu _ _)
theorem TabT.kept {t:Addr} {d:Tab} (h:TabT H t d) (s:Kept H H'):TabT H' t d:=by
 obtain ⟨e,f,a,b,c⟩:=h;exact ⟨e,f,s.tu _ _ a,s.tu _ _ b,c.kept s⟩
theorem TabsT.kept {ts:List Addr} {ds:List Tab} (h:TabsT H ts ds) (s:Kept H H'):TabsT H' ts ds:=Paired.mapP h λ_ _ e=>e.kept s
theorem OrdsI.kept {x:V} {a:List Col} (h:OrdsI H x a) (s:Kept H H'):OrdsI H' x a:=h.imp id (by rintro ⟨b,d,e,q,c⟩;exact ⟨b,d,e,q.kept s,c.kept s⟩)
theorem TabsC.kept {ts cas:List Addr} {ds:List Tab} (h:TabsC H ts cas ds) (s:Kept H H'):TabsC H' ts cas ds:=⟨Paired.mapP h.1 (by rintro _ _ ⟨d,a,b,c⟩;exact ⟨d,s.tu _ _ a,s.tu _ _ b,c.kept s⟩),h.2⟩
theorem TabsT.cols {ts:List Addr} {ds:List Tab} (h:TabsT H ts ds):∃ cas,TabsC H ts cas ds:=by
 induction h with
 | nil=>exact ⟨[],.nil,rfl,rfl⟩
 | cons r t d =>
  obtain ⟨e,f,a,b,c⟩:=r;obtain ⟨cas,p,l1,l2⟩:=d;exact ⟨e :: cas,.cons ⟨f,a,b,c⟩ p,by rw [ya4,ya4,l1],by rw [ya4,ya4,l2]⟩
theorem kvs_len {ds:List Tab} {cas:List Addr} (h:cas.length=ds.length):(kvsOf ds cas).length=ds.length:=by
 unfold kvsOf;rw [yab,ydC,h,Nat.min_self]
theorem zh0:∀ {ds:List Tab} {cas:List Addr},cas.length=ds.length->(kvsOf ds cas).map (·.1)=ds.map λd=>(.inr d.1:Key)
 | [],[],_=>rfl
 | _ :: _,[],h=>nomatch h
 | [],_ :: _,h=>nomatch h
 | d :: ds,c :: cas,h=>by
  show (ybs d.1:Key) :: (kvsOf ds cas).map (·.1)=_;rw [zh0 (yb5 h)];rfl
theorem ziM {ds:List Tab} (h:(ds.map (·.1)).Nodup):(ds.map λd=>(.inr d.1:Key)).Nodup:=by
 induction ds with
 | nil=>exact yce
 | cons d ds c =>
  rw [yaw,ybm] at h ⊢;refine ⟨λz=>h.1 ?_,c h.2⟩;obtain ⟨e,b,a⟩:=yao.mp z;injection a with a;exact yao.mpr ⟨e,b,a⟩
theorem kvs_at:∀ {ts cas:List Addr} {ds:List Tab},TabsC H ts cas ds->∀ {i:Nat} {q:Addr} {b:Key×V},ts[i]? = some q->(kvsOf ds cas)[i]? = some b->H q=some (.tup [kV b.1,b.2])
 | [],_,_,_,i,_,_,e,_=>by simp at e
 | _ :: _,[],_ :: _,⟨_,_,l⟩,_,_,_,_,_=>nomatch l
 | _ :: _,_,[],⟨_,l,_⟩,_,_,_,_,_=>nomatch l
 | t :: ts,c :: cas,d :: ds,⟨.cons ⟨qs,a,_,_⟩ p,l1,l2⟩,0,_,_,e1,e2=>by cases e1;cases e2;exact a
 | t :: ts,c :: cas,d :: ds,⟨.cons _ p,l1,l2⟩,i+1,_,_,e1,e2=>kvs_at (ts:=ts) (cas:=cas) (ds:=ds) ⟨p,yb5 l1,yb5 l2⟩ (i:=i) e1 e2
end
def zc5 (C:Addr):Sp:=λvs H Q _=>∃ (p dx a:Addr) (x:V) (ts:List Addr) (tabs:List Tab) (ords:List Col),vs = [.ref p,.ref a,x]/\H p=some (.ins C dx [])/\Sq H a (ts.map V.ref)/\TabsI H ts tabs/\zaY tabs/\OrdsI H x ords/\zfI tabs ords /\
 ∀ (H':Hp) (dx' tt oo dd:Addr),H' p=some (.ins C dx' (scF tt oo dd))->H dd=none->SchemaAt C H' p tabs ords->(∀ b o,H b=some o->b≠p->H' b=some o)->Q .non H'
theorem zbO (T:Txt K mg):FnOk P w K mg base CX0 7 T.Schema___init__.f T.Schema___init__.fd ["self", "tables", "orders"] (zc5 T.C_Schema):=by
 refine T.Schema___init__.fn.ok zdi (λvs H Q E h => ?_) (λaf A outer s H vs Q E hr h => ?_)
 ·obtain ⟨p,dx,a,x,ts,tabs,t,rfl,_⟩:=h;rfl
 ·obtain ⟨p,dx,a,x,ts,tabs,t,rfl,hp,hq,hi,l,hx,Y,q⟩:=h;refine ⟨_,((zad (zdX (pv 0) (zaq (zfl T) (hr.mono (by decide)) rfl (zaa (pv 1) zae)) rfl)
   (zad (zdX (pv 0) (zaq (zft T) (hr.mono (by decide)) rfl (zaa (zaE (K:=K) rfl (pv 0) rfl) (zaa (pv 2) zae))) rfl)
   (zag (zdX (pv 0) (zaQ (ziE rfl) (by rfl) T.b_dict bt_dict (zaa (zaE (K:=K) rfl (pv 0) rfl) zae)) rfl))))),?_⟩
  refine sq1 λai U => ?_;refine (ea rfl ⟨a,ts,tabs,rfl,hq,hi,l,λr o v D V R h1 oc od hT => ?_⟩);have F:=R _ _ hp;have nr:r≠p:=(zar hp V).symm;refine (ea rfl ⟨p,T.C_Schema,dx,ea rfl ⟨F,T.l_Schema,T.n_Schema_tables,by decide,?_⟩⟩);have G:Kept D (upd D p (.ins T.C_Schema dx (putF "tables" (.ref r) []))):=Kept.ins F;have y:upd D p (.ins T.C_Schema dx (putF "tables" (.ref r) [])) p=some (.ins T.C_Schema dx [("tables",.ref r)]):=by rw [zab];rfl
  have O1:∀ b u,H b=some u->b≠p->upd D p (.ins T.C_Schema dx (putF "tables" (.ref r) [])) b=some u:=λb u e n=>(zaf n).trans (R _ _ e);generalize upd D p (.ins T.C_Schema dx (putF "tables" (.ref r) []))=H2 at G y O1 ⊢;refine U ?_;refine (ea rfl ⟨p,T.C_Schema,dx,_,ea rfl ⟨y,T.l_Schema,T.n_Schema_tables,by kernel_rfl,ea rfl ⟨r,x,o,v,tabs,t,rfl,G.fr _ _ _ h1,hT.kept G,l,(hx.same R).kept G,Y,λc rs B am W h3 N => ?_⟩⟩⟩);have J:=W _ _ y;refine (ea rfl ⟨p,T.C_Schema,dx,ea rfl ⟨J,T.l_Schema,T.n_Schema_orders,(show (1:Nat) < 1000 by decide),?_⟩⟩);have M:Kept B (upd B p (.ins T.C_Schema dx (putF "orders" (.ref c) [("tables",.ref r)]))):=Kept.ins J;have k:upd B p (.ins T.C_Schema dx (putF "orders" (.ref c) [("tables",.ref r)])) p=some (.ins T.C_Schema dx [("tables",.ref r),("orders",.ref c)]):=by rw [zab];kernel_rfl
  have S:∀ b u,H b=some u->b≠p->upd B p (.ins T.C_Schema dx (putF "orders" (.ref c) [("tables",.ref r)])) b=some u:=λb u e n=>(zaf n).trans (W _ _ (O1 b u e n));have j:Kept D (upd B p (.ins T.C_Schema dx (putF "orders" (.ref c) [("tables",.ref r)]))):=(G.trans (Kept.of W)).trans M;generalize upd B p (.ins T.C_Schema dx (putF "orders" (.ref c) [("tables",.ref r)]))=L at M k S j ⊢;obtain ⟨cas,C⟩:=(hT.kept j).cols;refine (ea rfl ⟨p,T.C_Schema,dx,_,ea rfl ⟨k,T.l_Schema,T.n_Schema_tables,by kernel_rfl,r,o,v,kvsOf tabs cas,rfl,j.fr _ _ _ h1,oc,od,?_,?_,?_,λi q kx e1 e2=>kvs_at C e1 e2,λd hd => ?_⟩⟩)
  ·rw [kvs_len C.2.2,C.2.1]
  ·rw [C.2.1];have:=l.2.1;omega
  ·rw [zh0 C.2.2];exact ziM l.2.2.2
  ·have O:Same L (upd L d (.dK (kvsOf tabs cas))):=Same.new hd;have I:=O _ _ k;refine (ea rfl ⟨p,T.C_Schema,dx,ea rfl ⟨I,T.l_Schema,T.n_Schema_columns,(show (2:Nat) < 1000 by decide),?_⟩⟩);have K5:Kept (upd L d (.dK (kvsOf tabs cas))) (upd (upd L d (.dK (kvsOf tabs cas))) p (.ins T.C_Schema dx (putF "columns" (.ref d) [("tables",.ref r),("orders",.ref c)]))):=Kept.ins I;have m:=(Kept.of O).trans K5;have Z:H d=none:=by
    cases e:H d with
    | none=>rfl
    | some u =>
     rw [S d u e (λz=>by rw [z,k] at hd;cases hd)] at hd;cases hd
   have g:(upd (upd L d (.dK (kvsOf tabs cas))) p (.ins T.C_Schema dx (putF "columns" (.ref d) [("tables",.ref r),("orders",.ref c)]))) p=some (.ins T.C_Schema dx (scF r c d)):=by
    rw [zab];kernel_rfl
   exact q _ dx r c d g Z ⟨dx,r,c,d,o,v,cas,rs,g,(j.trans m).fr _ _ _ h1,C.kept m,(M.trans m).tu _ _ h3,N.kept (M.trans m),K5.dk _ _ zab⟩ λb u e n=>(zaf n).trans (O _ _ (S b u e n))
theorem kvs_val:∀ {ds:List Tab} {cas:List Addr},(ds.map (·.1)).Nodup->∀ (e:cas.length=ds.length) (k:Nat) (b:k < ds.length),valV (kvsOf ds cas) (.inr ds[k].1:Key)=some (.ref (cas[k]'(by omega)))
 | [],_,_,_,_,b=>absurd b (ydy _)
 | _ :: _,[],_,h,_,_=>nomatch h
 | d :: ds,c :: cas,nd,e,0,_=>zaT rfl
 | d :: ds,c :: cas,nd,e,k+1,b=>by
  rw [yaw,ybm] at nd;have a:k < ds.length:=ydp b;show valV ((ybs d.1,V.ref c) :: kvsOf ds cas) (.inr ds[k].1)=_;rw [zaS ?_,kvs_val nd.2 (yb5 e) k a]
  ·rfl
  ·intro z;injection z with z;exact nd.1 (yao.mpr ⟨ds[k],yam a,z.symm⟩)
theorem TabsC.at:∀ {H:Hp} {ts cas:List Addr} {ds:List Tab},TabsC H ts cas ds->∀ (k:Nat) (h1:k < ts.length) (h2:k < cas.length) (b:k < ds.length),∃ a:List Addr,H ts[k]=some (.tup [.str ds[k].1,.ref cas[k]])/\H cas[k]=some (.tup (a.map V.ref))/\ColsAt H a ds[k].2:=λ{H ts cas ds} h k h1 h2 b=>by
 have:=Paired.at h.1 k (by rw [ydC];omega) b;rw [List.getElem_zip] at this;exact this
theorem SchemaAt.kept {C:Addr} {H H':Hp} {p:Addr} {tabs:List Tab} {g:List Col} (h:SchemaAt C H p tabs g) (s:Same H H'):SchemaAt C H' p tabs g:=by
 obtain ⟨dx,i,j,dd,o,ts,cas,k,a,b,c,d,e,f⟩:=h;exact ⟨dx,i,j,dd,o,ts,cas,k,s _ _ a,s _ _ b,c.kept (Kept.of s),s _ _ d,e.same s,s _ _ f⟩
def zco (C:Addr):Sp:=λvs H Q _=>∃ (p:Addr) (tabs:List Tab) (ords:List Col),vs = [.ref p]/\SchemaAt C H p tabs ords/\zaY tabs/\∀ (l:Addr) (H':Hp),H l=none->Same H H'->H' l=some (.lst ((tabs.map (·.1)).map V.str))->Q (.ref l) H'
def zfg (C:Addr):Sp:=λvs H Q _=>∃ (p dx tt oo dd:Addr),vs = [.ref p]/\H p=some (.ins C dx (scF tt oo dd))/\∀ (r:Addr) (H':Hp),H r=none->Same H H'->H' r=some (.tup [.ref tt,.ref oo])->Q (.ref r) H'
def zcN (C:Addr):Sp:=λvs H Q _=>∃ (p:Addr) (tabs:List Tab) (ords:List Col) (k:Nat) (hk:k < tabs.length),vs = [.ref p,.str tabs[k].1]/\SchemaAt C H p tabs ords/\zaY tabs /\
 ∀ (l:Addr) (qs:List Addr) (H':Hp),H l=none->Same H H'->H' l=some (.lst (qs.map V.ref))->ColsAt H' qs tabs[k].2->Q (.ref l) H'
theorem scF_t (a b dd:Addr):(scF a b dd).lookup ("tables" : Str)=some (.ref a):=by kernel_rfl
theorem scF_o (b a dd:Addr):(scF b a dd).lookup ("orders" : Str)=some (.ref a):=by kernel_rfl
theorem scF_c (b a dd:Addr):(scF b a dd).lookup ("columns" : Str)=some (.ref dd):=by kernel_rfl
theorem zcQ (T:Txt K mg):FnOk P w K mg base CX0 1 T.Schema_told.f T.Schema_told.fd ["self"] (zfg T.C_Schema):=by
 refine T.Schema_told.fn.ok zfe (λvs H Q E h => ?_) (λc A outer s H vs Q E g h => ?_)
 ·obtain ⟨p,dx,d,e,dd,rfl,_⟩:=h;rfl
 ·obtain ⟨p,dx,d,e,dd,rfl,b,q⟩:=h;refine ⟨_,((zag (zao (zaU (zaa (zaE (K:=K) rfl (pv 0) rfl) (zaa (zaE (K:=K) rfl (pv 0) rfl) zae)))))),?_⟩;refine ⟨_,rfl,p,T.C_Schema,dx,_,_,rfl,b,T.l_Schema,T.n_Schema_tables,scF_t ..,_,rfl,p,T.C_Schema,dx,_,_,rfl,b,T.l_Schema,T.n_Schema_orders,scF_o ..,zah (show 2<=100000 by decide),λr a => ?_⟩;exact q r _ a (Same.new a) zab
theorem zcv (T:Txt K mg):FnOk P w K mg base CX0 1 T.Schema_table_names.f T.Schema_table_names.fd ["self"] (zco T.C_Schema):=by
 refine T.Schema_table_names.fn.ok zcn (λvs H Q E h => ?_) (λC A outer s H vs Q E O h => ?_)
 ·obtain ⟨p,tabs,g,rfl,_⟩:=h;rfl
 ·obtain ⟨p,tabs,g,rfl,B,u,q⟩:=h;obtain ⟨dx,t,S,dd,o,ts,cas,R,G,F,m,_⟩:=B;refine ⟨_,((zag (zao (za7 (N := ["table"]) (own:=1) (caps := []) rfl (by kernel_rfl) (by kernel_rfl) (zcy (K:=K) rfl (zaE (K:=K) rfl (pv 0) rfl)) (λ_ _ _ _ _=>zal (i:=0) (show List.Nodup (["table"]:List Str) by decide +kernel) rfl (yaL rfl)) (λ_ _ _ _ _=>zaW) (λ_ _ _ _ _=>(pe_ix (zak (K:=K) rfl) (pv 0) zac (λ_ _=>rfl))))))),?_⟩;have l:∀ {b:Hp},Same H b->SqT K b t (ts.map V.ref):=λs => .inl (.inr ⟨o,s _ _ F⟩);refine ⟨_,rfl,p,T.C_Schema,dx,_,_,rfl,G,T.l_Schema,T.n_Schema_tables,scF_t ..,t,rfl,⟨_,l (Same.refl _)⟩,λD r => ?_⟩;refine zaH (J:=Itt K t) ts.length (λj e b=>∃ (v:Option V),e = [v]/\Same H b/\b D=some (.lst ((((tabs.take j).map (·.1))).map V.str)))
   ⟨none,rfl,Same.new r,zab⟩
   (λj e b k ⟨_,_,n,_⟩=>⟨_,.ref ts[j],l n,by rw [yaf,yaa k];rfl⟩)
   (by rintro e b ⟨_,_,n,_⟩;exact ⟨_,l n,by rw [yab];exact yaj _⟩) ?_ ?_
  ·rintro j e b y M k ⟨v,rfl,a,c⟩ ⟨rfl,L⟩;have z:=L _ (l a);rw [yaf,yaa k] at z;cases z;have d:j < tabs.length:=by rw [<- m.2.1];exact k
   obtain ⟨U,I,_,_⟩:=m.at j k (by rw [m.2.2];exact d) d;refine ⟨_,rfl,_,_,_,_,rfl,rfl,SqT.of (a _ _ I),rfl,_,c,?_,⟨_,rfl,a.upd r,?_⟩⟩
   ·rw [yab,yab,yaA];have:=u.2.1;exact zai (by omega)
   ·rw [zab,yap d,yak,yak];rfl
  ·rintro e b ⟨v,rfl,a,c⟩;rw [m.2.1,yaG] at c;exact q D b r a c
theorem zaC (T:Txt K mg):FnOk P w K mg base CX0 3 T.Schema_columns_of.f T.Schema_columns_of.fd ["self", "table"] (zcN T.C_Schema):=by
 refine T.Schema_columns_of.fn.ok zcO (λvs H Q E h => ?_) (λt A outer s H vs Q E m h => ?_)
 ·obtain ⟨p,tabs,b,k,a,rfl,_⟩:=h;rfl
 ·obtain ⟨p,tabs,b,k,a,rfl,r,c,q⟩:=h;have d:=hu_of m;have j:=(c.2.2.1 _ (yam a)).1;refine ⟨_,((zad (ps_if (PW.pt (pw_or (zbb (za8 (zaq (zcG T) (m.mono (by decide)) rfl (zaa (pv 1) zae)))) (zcB (zdg (zgB d (pv 1) (zaE (K:=K) rfl (pv 0) rfl)))))) (zag zbp) zau)
   (zag (zao (zaQ (zge (K:=K) rfl) (by rfl) T.b_list zen (zaa (zaM d (zaE (K:=K) rfl (pv 0) rfl) (pv 1) (λ_ _=>rfl)) zae)))))),?_⟩
  refine ⟨_,rfl,_,rfl,Thing.str (nm_len j),λv g=>⟨_,rfl,ite2 (λz=>absurd z (by simp [isName,j])) (λ_ => ?_)⟩⟩;obtain ⟨dx,D,F,dd,o,ts,cas,C,n,B,e,_,_,hd⟩:=r.kept g;have val:=kvs_val c.2.2.2 e.2.2 k a;have get:DGet v dd (.str tabs[k].1) (some (.ref (cas[k]'(by rw [e.2.2];exact a)))):=val ▸ DGet.k (k:=ybs tabs[k].1) hd;obtain ⟨y,_,t2,u⟩:=e.at k (by rw [e.2.1];exact a) (by rw [e.2.2];exact a) a;refine ⟨_,rfl,_,rfl,p,T.C_Schema,dx,_,_,rfl,n,T.l_Schema,T.n_Schema_columns,scF_c ..,dd,_,rfl,get,_,rfl,iteF ?_⟩;refine ⟨_,rfl,p,T.C_Schema,dx,_,_,rfl,n,T.l_Schema,T.n_Schema_columns,scF_c ..,_,rfl,dd,_,rfl,get,?_⟩;refine ⟨_,_,rfl,.inr (SqT.of t2),λl i => ?_⟩;exact q l y _ (g.free i) (g.upd (g.free i)) zab (u.same (Same.new i))
def hasO (d:Tab) (ords:List Col):V->Bool
 | .str c=>isNm c&&(decide ((d.2.map (·.1)).head? = some c) || decide ((d.1,c)∈ords))
 | _=>false
def zcZ (K:PySem.W.Frag) (C:Addr):Sp:=λvs H Q _=>∃ (p:Addr) (tabs:List Tab) (ords:List Col) (k:Nat) (hk:k < tabs.length) (x:V),vs = [.ref p,.str tabs[k].1,x]/\SchemaAt C H p tabs ords/\zaY tabs/\Thing K H x /\
 ∀ (H':Hp),Same H H'->Q (.bl (hasO tabs[k] ords x)) H'
theorem SchemaAt.obj {C:Addr} {H:Hp} {p:Addr} {tabs:List Tab} {b:List Col} (h:SchemaAt C H p tabs b):∃ dx c d dd,H p=some (.ins C dx (scF c d dd)):=let ⟨dx,c,d,dd,_,_,_,_,a,_⟩:=h.ex;⟨dx,c,d,dd,a⟩
theorem zei {m:Str} (b a dd:Addr) (h:m ≠ "tables"/\m ≠ "orders"/\m ≠ "columns"):(scF b a dd).lookup m=none:=by
 unfold scF;rw [ybc,beq_eq_false_iff_ne.mpr h.1];dsimp only;rw [ybc,beq_eq_false_iff_ne.mpr h.2.1];dsimp only;rw [ybc,beq_eq_false_iff_ne.mpr h.2.2];rfl
theorem zdv (b a dd:Addr):(scF b a dd).lookup ("columns_of" : Str)=none:=zei b a dd (by decide +kernel)
theorem zcW (T:Txt K mg):FnOk P w K mg base CX0 4 T.Schema_has_order.f T.Schema_has_order.fd ["self", "table", "column"] (zcZ K T.C_Schema):=by
 refine T.Schema_has_order.fn.ok sc_Schema_has_order (λvs H Q E h => ?_) (λR A outer s H vs Q E C h => ?_)
 ·obtain ⟨p,tabs,a,k,r,x,rfl,_⟩:=h;rfl
 ·obtain ⟨p,tabs,a,k,r,x,rfl,o,j,W,q⟩:=h;have I:=hu_of C;have J:=j.2.2.1 _ (yam r);obtain ⟨dx,tt,oo,dd,hp⟩:=o.obj;refine ⟨_,((zad (zas (i:=3) sc_Schema_has_order.nd rfl (yaL rfl) (pe_ix (zak (K:=K) rfl) (pe_ix (zam (K:=K) rfl) (zaP T.l_Schema (zaC T) (C.mono (by decide)) (pv 0) (zaa (pv 1) zae)) zac (λ_ _=>rfl)) zac (λ_ _=>rfl)))
   (zad (ps_if (zbb (za8 (zaq (zcG T) (C.mono (by decide)) rfl (zaa (pv 2) zae)))) (zag (zao pe_bl)) zau)
   (zag (zao (pe_or (zby op_eq (pv 2) (pv 3) (zaD _)) (zcR (zby (op_inP (K:=K) rfl I) (zaU (zaa (pv 1) (zaa (pv 2) zae))) (zaE (K:=K) rfl (pv 0) rfl) (by with_unfolding_all rfl))))))))),?_⟩
  refine ⟨_,rfl,p,dx,_,rfl,hp,zdv ..,_,rfl,p,tabs,a,k,r,rfl,o,j,λl g H1 hl N O hc => ?_⟩;have ql:g.length=tabs[k].2.length:=yaC hc;have L:0 < tabs[k].2.length:=J.2.1;have U:0 < g.length:=by omega
  have at0:atI (g.map V.ref) 0=some (.ref g[0]):=zdJ (by decide) (by show (g.map V.ref)[0]? = _;rw [yaf,yaa U];rfl);refine ⟨l,_,_,_,rfl,rfl,SqL.of O,at0,?_⟩;refine ⟨_,_,_,_,rfl,rfl,SqT.of (Paired.at hc 0 (by omega) L),rfl,?_⟩;refine ⟨_,rfl,_,rfl,W.same N,λb Z=>⟨_,rfl,?_⟩⟩;have m:Same H b:=N.trans Z;cases x with
  | str c =>
   by_cases d:isNm c=true
   ·refine ite2 (λz=>absurd z (by simp [isName,d])) (λ_ => ?_);refine ⟨_,rfl,_,rfl,rfl,_,rfl,?_⟩;have hd:(tabs[k].2.map (·.1)).head? = some tabs[k].2[0].1:=by
     rw [List.head?_map,yew,yaa L,yej]
    refine ite2 (λz => ?_) (λz => ?_)
    ·have e:=of_decide_eq_true z;injection e with e;refine q_of (q b m) ?_;show (isNm c&&_)=_;rw [d,hd,decide_eq_true (congrArg some e.symm)];rfl
    ·have e:tabs[k].2[0].1≠c:=λy=>z (decide_eq_true (by rw [y]));obtain ⟨D,ab,G,ac,o2,Y,M,u,B,_,_,F,v,_⟩:=(o.kept m).ex;refine ⟨_,rfl,_,rfl,zah (show 2<=100000 by decide),λt S => ?_⟩;have n:Same b (upd b t (.tup [.str tabs[k].1,.str c])):=Same.new S;refine ⟨_,rfl,p,T.C_Schema,D,_,_,rfl,n _ _ B,T.l_Schema,T.n_Schema_orders,scF_o ..,t,G,u,a,(tabs[k].1,c),rfl,rfl,zab,.inl (SqT.of (n _ _ F)),v.same n,?_⟩;refine q_of (q _ (m.trans n)) ?_;show (isNm c&&_)=_;rw [d,hd,decide_eq_false (λy=>e (yaz y))];rfl
   ·refine ite2 (λ_ => ?_) (λz=>absurd (by simpa [isName] using d) z);refine q_of (q b m) ?_;show (isNm c&&_)=_;rw [Bool.eq_false_iff.mpr d,ycR]
  | _=>exact iteT (q_of (q b m) rfl)
abbrev zax:=Int×Option Int×Addr
def toV:Option Int->V
 | none => .non
 | some j => .int j
def adV:Option Addr->V
 | none => .non
 | some r => .ref r
def stV (s:zax):List V := [.int s.1,toV s.2.1,.ref s.2.2]
noncomputable def upTo (m:Int):Option Int->Bool
 | none=>true
 | some j=>decide (m < j)
noncomputable def lies (m:Int) (s:zax):Bool:=decide (s.1<=m)&&upTo m s.2.1
noncomputable def rowThen (ss:List zax) (m:Int):Option Addr:=(ss.find? (lies m)).map (·.2.2)
abbrev StAt (H:Hp) (ts:List Addr) (ss:List zax):Prop:=Paired (λt s=>H t=some (.tup (stV s))) ts ss
theorem at0 {α:Type} (x:α) (r:List α):atI (x :: r) 0=some x:=by
 unfold atI ixN;rw [if_pos (by decide),if_pos (by rw [ya4];omega)];rfl
theorem gF {K:PySem.W.Frag} {x C dx:Addr} {fs:List (Str×V)} {f:Str} {v:V} {H:Hp} {G:V->Prop} (c:H x=some (.ins C dx fs)) (l:Cls K C) (n:NoAttr K C f) (e:fs.lookup f=some v) (q:G v) :
  ∃ a C dx fs b,V.ref x = .ref a/\H a=some (.ins C dx fs)/\Cls K C/\NoAttr K C f/\fs.lookup f=some b/\G b:=⟨x,C,dx,fs,v,rfl,c,l,n,e,q⟩
def Ch1 (x:Addr) (H H':Hp):Prop:=∀ b o,b≠x->H b=some o->H' b=some o
theorem Ch1.trans {x:Addr} {H f d:Hp} (a:Ch1 x H f) (b:Ch1 x f d):Ch1 x H d:=λc o n e=>b c o n (a c o n e)
theorem Ch1.of {x:Addr} {H b:Hp} (a:Same H b):Ch1 x H b:=λc o _ e=>a c o e
theorem Ch1.none {x l:Addr} {H H':Hp} {u:HO} (c:Ch1 x H H') (a:H' x=some u) (h:H' l=none):H l=none/\l≠x:=by
 have n:l≠x:=λz=>by rw [z,a] at h;cases h
 refine ⟨?_,n⟩;cases e:H l with
 | none=>rfl
 | some o=>rw [c l o n e] at h;cases h
theorem pF {K:PySem.W.Frag} {x C dx:Addr} {fs fs':List (Str×V)} {f:Str} {y:V} {H:Hp} {G:Hp->Prop} (c:H x=some (.ins C dx fs)) (l:Cls K C) (n:NoAttr K C f) (z:fs.length < 1000) (e:putF f y fs=fs')
  (q:∀ H',H' x=some (.ins C dx fs')->Ch1 x H H'->G H') :
  ∃ a C dx fs,V.ref x = .ref a/\H a=some (.ins C dx fs)/\Cls K C/\NoAttr K C f/\fs.length < 1000/\G (upd H a (.ins C dx (putF f y fs))) :=
 ⟨x,C,dx,fs,rfl,c,l,n,z,q _ (by rw [zab,e]) λ_ _ b e=>(zaf b).trans e⟩
def ziL:Sp:=λvs H Q _=>∃ (m:Int) (t:Addr) (s:zax),vs = [.int m,.ref t]/\H t=some (.tup (stV s))/\Q (.bl (lies m s)) H
def zgY:Sp:=λvs H Q _=>∃ (l:Addr) (ts:List Addr) (ss:List zax) (m:Int),vs = [.ref l,.int m]/\H l=some (.lst (ts.map V.ref))/\StAt H ts ss/\Q (adV (rowThen ss m)) H
theorem zim (T:Txt K mg):FnOk P w K mg base CX0 1 T.lies_in.f T.lies_in.fd ["make", "stretch"] ziL:=by
 refine T.lies_in.fn.ok ziz (λvs H Q E h => ?_) (λg A outer s H vs Q E i h => ?_)
 ·obtain ⟨m,t,s,rfl,_⟩:=h;rfl
 ·obtain ⟨m,t,⟨a,b,r⟩,rfl,d,q⟩:=h;refine ⟨_,((zag (zao (zdY (zby op_le (pe_ix (zak (K:=K) rfl) (pv 1) zac (λ_ _=>rfl)) (pv 0) (zaD _)) (zcR (pe_or (pe_cmp (zid (pe_ix (zak (K:=K) rfl) (pv 1) zac (λ_ _=>rfl)))) (zcR (zby op_lt (pv 0) (pe_ix (zak (K:=K) rfl) (pv 1) zac (λ_ _=>rfl)) (zaD _))))))))),?_⟩;refine ea rfl (ixTc (v := .int a) (SqT.of d) rfl (ea rfl ⟨_,_,rfl,rfl,ea rfl (ite2 (λz => ?_) (λz => ?_))⟩))
  ·have c:decide (a<=m)=true:=z;refine ea rfl (ixTc (v:=toV b) (SqT.of d) rfl (ea rfl (ite2 (λy => ?_) (λy => ?_))))
   ·have:b=none:=by
     cases b with
     | none=>rfl
     | some j=>exact absurd (of_decide_eq_true y) (λz=>nomatch z)
    subst this;have e:lies m (a,none,r)=true:=by unfold lies upTo;rw [c];rfl
    rw [e] at q;exact q
   ·cases b with
    | none=>exact absurd (decide_eq_true rfl) y
    | some j =>
     refine ea rfl (ea rfl (ixTc (v := .int j) (SqT.of d) rfl ⟨_,_,rfl,rfl,?_⟩));have e:lies m (a,some j,r)=decide (m < j):=by unfold lies upTo;rw [c];rfl
     rw [e] at q;exact q
  ·have c:decide (a<=m)=false:=by simpa using z
   have e:lies m (a,b,r)=false:=by unfold lies;rw [c];rfl
   rw [e] at q;exact q
theorem ziA {ss:List zax} {m:Int} {i:Nat} (hi:i < ss.length) (h:lies m ss[i]=false):rowThen (ss.drop i) m=rowThen (ss.drop (i+1)) m:=by
 unfold rowThen;rw [ydY hi,ybw,h]
theorem zeW (T:Txt K mg):FnOk P w K mg base CX0 2 T.row_then.f T.row_then.fd ["stretches", "make"] zgY:=by
 refine T.row_then.fn.ok sc_row_then (λvs H Q E h => ?_) (λr A outer s H vs Q E t h => ?_)
 ·obtain ⟨l,ts,ss,m,rfl,_⟩:=h;rfl
 ·obtain ⟨l,ts,ss,m,rfl,o,k,q⟩:=h;have j:=k.length;refine ⟨_,((zad (zaV yaQ rfl (zaA (K:=K) rfl (pv 0)) (zal (i:=2) sc_row_then.nd rfl (yaL rfl)) (zag (ps_if (za8 (zaq (zim T) (t.mono (by decide)) rfl (zaa (pv 1) (zaa (pv 2) zae)))) (zag (zao (pe_ix (zak (K:=K) rfl) (pv 2) zac (λ_ _=>rfl)))) zau)))
   (zag (zao zez)))),?_⟩
  refine sq1 λu p1 => ?_;refine ea rfl ⟨l,rfl,⟨_,SqL.of o⟩,?_⟩;refine za0 (K:=K) (a:=l) (xs:=ts.map V.ref) (λi g d=>d=H/\(∃ v:Option V,g = [some (.ref l),some (.int m),v])/\rowThen ss m=rowThen (ss.drop i) m) ⟨rfl,⟨_,rfl⟩,rfl⟩ ?_ ?_ ?_
  ·rintro i g d _ ⟨rfl,_⟩;exact SqL.of o
  ·rintro i x g d hi ⟨rfl,⟨v,rfl⟩,e⟩;have c:i < ts.length:=by
    have:=(yav.mp hi).1
    rwa [yab] at this
   rw [yaf,yaa c] at hi;cases hi;have b:i < ss.length:=by omega
   have n:=Paired.at k i c b;refine ea rfl (ea rfl ⟨m,ts[i],ss[i],rfl,n,ea rfl (ite2 (λz => ?_) (λz => ?_))⟩)
   ·refine ea rfl (ixTc (v := .ref ss[i].2.2) (SqT.of n) rfl ?_);have p:rowThen ss m=some ss[i].2.2:=by
     rw [e,rowThen,ydY b,ybw,z];rfl
    rw [p] at q;exact q
   ·exact ⟨rfl,⟨_,rfl⟩,e.trans (ziA b (by simpa using z))⟩
  ·rintro g d ⟨rfl,⟨v,rfl⟩,e⟩;refine p1 ?_;rw [yab,j,List.drop_length] at e;rw [e] at q;exact q
inductive Role where
 | mk | st | sr | lw
 | S (nm:Str)
 | W (nm:Str)
 | L (nm:Str) (k:Key)
structure MR where
 sc:Addr
 dx:Addr
 st:Addr
 sr:Addr
 lw:Addr
 L:Int
 cnt:Nat
 names:List Str
 U:Str->List Key
 S:Str->Addr
 W:Str->Addr
 ks:Str->List (Key×Addr)
 ss:Str->Key->List zax
 own:Addr->Option Role
abbrev mkF (sc:Addr) (L:Int) (st sr lw:Addr):List (Str×V) := [("schema",.ref sc),("last",.int L),("still_told",.ref st),("stretches",.ref sr),("last_written",.ref lw)]
noncomputable def ksD (l:List (Key×Addr)):List (Key×V):=l.map λp=>(p.1,.ref p.2)
noncomputable def nmD (names:List Str) (f:Str->Addr):List (Key×V):=names.map λnm=>(.inr nm,.ref (f nm))
def Mut3 (o:Option HO):Prop:=(∃ C dx fs,o=some (.ins C dx fs))\/(∃ kv,o=some (.dK kv))\/∃ xs,o=some (.lst xs)
structure Mks (C:Addr) (H:Hp) (mk:Addr) (m:MR):Prop where
 obj:H mk=some (.ins C m.dx (mkF m.sc m.L m.st m.sr m.lw))
 told:∃ kv,H m.st=some (.dK kv)/\(kv.length:Int)<=m.L+1/\∀ j,0<=j->j<=m.L->valV kv (.inl j)=some (.bl true)
 l0:0<=m.L
 l1:m.L<=1000
 srd:H m.sr=some (.dK (nmD m.names m.S))
 lwd:H m.lw=some (.dK (nmD m.names m.W))
 nd:m.names.Nodup
 ul:∀ nm∈m.names,(m.U nm).length<=63
 sd:∀ nm∈m.names,H (m.S nm)=some (.dK (ksD (m.ks nm)))
 kn:∀ nm∈m.names,((m.ks nm).map (·.1)).Nodup
 uk:∀ nm∈m.names,∀ p∈m.ks nm,p.1∈m.U nm
 wd:∀ nm∈m.names,∃ kv:List (Key×V),H (m.W nm)=some (.dK kv)/\(kv.map (·.1)).Nodup/\∀ p∈kv,p.1∈m.U nm
 ld:∀ nm∈m.names,∀ p∈m.ks nm,∃ ts,H p.2=some (.lst (ts.map V.ref))/\StAt H ts (m.ss nm p.1)
 sl:∀ nm k,(m.ss nm k).length<=m.cnt
 s0:∀ nm∈m.names,∀ k,k∉(m.ks nm).map (·.1)->m.ss nm k = []
 omk:m.own mk=some .mk
 ost:m.own m.st=some .st
 osr:m.own m.sr=some .sr
 olw:m.own m.lw=some .lw
 oS:∀ nm∈m.names,m.own (m.S nm)=some (.S nm)
 oW:∀ nm∈m.names,m.own (m.W nm)=some (.W nm)
 oL:∀ nm∈m.names,∀ p∈m.ks nm,m.own p.2=some (.L nm p.1)
 live:∀ b r,m.own b=some r->Mut3 (H b)
def Fo (own:Addr->Option Role) (H H':Hp):Prop:=∀ b o,own b=none->H b=some o->H' b=some o
theorem Fo.of {own:Addr->Option Role} {H H':Hp} (s:Same H H'):Fo own H H':=λb o _ e=>s b o e
theorem zb3 {own:Addr->Option Role} {a b:Addr} {r c:Role} (h:own a=some r) (h':own b=some c) (n:r≠c):a≠b:=λz=>by rw [z,h'] at h;exact n (yaz h).symm
theorem StAt.mono {H H':Hp} {ts:List Addr} {ss:List zax} (s:StAt H ts ss) (k:∀ b xs,H b=some (.tup xs)->H' b=some (.tup xs)):StAt H' ts ss:=Paired.mapP s λ_ _ e=>k _ _ e
section
variable {C mk:Addr} {H H':Hp} {m:MR}
theorem Mks.free (w:Mks C H mk m) {b:Addr} (h:H b=none):m.own b=none:=by
 cases e:m.own b with
 | none=>rfl
 | some r =>
  rcases w.live b r e with ⟨_,_,_,z⟩ | ⟨_,z⟩ | ⟨_,z⟩ <;> (rw [h] at z;cases z)
theorem Mks.tup (w:Mks C H mk m) {b:Addr} {xs:List V} (h:H b=some (.tup xs)):m.own b=none:=by
 cases e:m.own b with
 | none=>rfl
 | some r =>
  rcases w.live b r e with ⟨_,_,_,z⟩ | ⟨_,z⟩ | ⟨_,z⟩ <;> (rw [h] at z;cases z)
theorem Mks.frz (w:Mks C H mk m) {b:Addr} {o:Obj} {u:HO} (h:H b=some (.frz o u)):m.own b=none:=by
 cases e:m.own b with
 | none=>rfl
 | some r =>
  rcases w.live b r e with ⟨_,_,_,z⟩ | ⟨_,z⟩ | ⟨_,z⟩ <;> (rw [h] at z;cases z)
theorem Mks.same (w:Mks C H mk m) (s:Same H H'):Mks C H' mk m where
 obj:=s _ _ w.obj
 told:=let ⟨kv,a,b⟩:=w.told;⟨kv,s _ _ a,b⟩
 l0:=w.l0
 l1:=w.l1
 srd:=s _ _ w.srd
 lwd:=s _ _ w.lwd
 nd:=w.nd
 ul:=w.ul
 sd:=λnm h=>s _ _ (w.sd nm h)
 kn:=w.kn
 uk:=w.uk
 wd:=λnm h=>let ⟨kv,a,b⟩:=w.wd nm h;⟨kv,s _ _ a,b⟩
 ld:=λnm h p c=>let ⟨ts,a,b⟩:=w.ld nm h p c;⟨ts,s _ _ a,b.mono λ_ _=>s _ _⟩
 sl:=w.sl
 s0:=w.s0
 omk:=w.omk
 ost:=w.ost
 osr:=w.osr
 olw:=w.olw
 oS:=w.oS
 oW:=w.oW
 oL:=w.oL
 live:=λb r e=>by
  rcases w.live b r e with ⟨_,_,_,z⟩ | ⟨_,z⟩ | ⟨_,z⟩
  ·exact .inl ⟨_,_,_,s _ _ z⟩
  ·exact .inr (.inl ⟨_,s _ _ z⟩)
  ·exact .inr (.inr ⟨_,s _ _ z⟩)
theorem Mks.klen (w:Mks C H mk m) {nm:Str} (h:nm∈m.names):(m.ks nm).length<=63:=by
 have sub:((m.ks nm).map (·.1)).length<=(m.U nm).length:=(w.kn nm h).length_le_of_subset (λk b=>by
  obtain ⟨p,a,e⟩:=yao.mp b;rw [<- e];exact w.uk nm h p a)
 rw [yab] at sub;exact yaY sub (w.ul nm h)
end
def MR.addKey (m:MR) (nm:Str) (k:Key) (l:Addr):MR:={ m with ks:=λn=>if n=nm then m.ks nm ++ [(k,l)] else m.ks n,own:=λb=>if b=l then some (.L nm k) else m.own b }
def MR.setSs (m:MR) (nm:Str) (k:Key) (s:List zax):MR:={ m with ss:=λn j=>if n=nm/\j=k then s else m.ss n j,cnt:=m.cnt+1 }
theorem zhU {ks:List (Key×Addr)} {p:Key×Addr} {k:Key} {l:Addr} (e:(ks.map (·.1)).Nodup) (b:p∈ks) (d:(k,l)∈ks) (e2:p.1=k):p.2=l:=by
 obtain ⟨i,hi,c⟩:=ybo.mp b;obtain ⟨j,f,a⟩:=ybo.mp d;have:i=j:=by
  have h1:(ks.map (·.1))[i]'(by rw [yab];exact hi)=(ks.map (·.1))[j]'(by rw [yab];exact f):=by
   rw [ybl,ybl,c,a];exact e2
  exact (yb4 e).mp h1
 subst this;rw [c] at a;rw [a]
section
variable {C mk:Addr} {H H':Hp} {m:MR} {nm:Str} {k:Key} {l:Addr}
theorem Mks.addKey (w:Mks C H mk m) (y:nm∈m.names) (D:k∉(m.ks nm).map (·.1)) (I:k∈m.U nm) (t:H l=none) :
  Mks C (upd (upd H l (.lst [])) (m.S nm) (.dK (ksD (m.ks nm ++ [(k,l)])))) mk (m.addKey nm k l):=by
 have J:m.own l=none:=w.free t;have i:∀ {b:Addr} {r:Role},m.own b=some r->(m.addKey nm k l).own b=some r:=λ{b r} e=>by
  show (if b=l then _ else _)=_;rw [if_neg (λz=>by rw [z,J] at e;cases e)];exact e
 have q:∀ {b:Addr} {o:HO} {r:Role},H b=some o->m.own b=some r->r ≠ .S nm->upd (upd H l (.lst [])) (m.S nm) (.dK (ksD (m.ks nm ++ [(k,l)]))) b=some o:=λ{b o r} e h n=>by
  rw [zaf (zb3 h (w.oS nm y) n),zaf (zar e t)];exact e
 have G:∀ b xs,H b=some (.tup xs)->upd (upd H l (.lst [])) (m.S nm) (.dK (ksD (m.ks nm ++ [(k,l)]))) b=some (.tup xs):=λb xs e=>by
  rw [zaf (λz=>by have:=w.oS nm y;rw [<- z,w.tup e] at this;cases this),zaf (zar e t)];exact e
 have A:l≠m.S nm:=(zar (w.sd nm y) t).symm;have f:(m.addKey nm k l).ks nm=m.ks nm ++ [(k,l)]:=if_pos rfl;have g:∀ n,n≠nm->(m.addKey nm k l).ks n=m.ks n:=λn h=>if_neg h;constructor
 ·exact q w.obj w.omk (λz=>nomatch z)
 ·obtain ⟨kv,a,b⟩:=w.told;exact ⟨kv,q a w.ost (λz=>nomatch z),b⟩
 ·exact w.l0
 ·exact w.l1
 ·exact q w.srd w.osr (λz=>nomatch z)
 ·exact q w.lwd w.olw (λz=>nomatch z)
 ·exact w.nd
 ·exact w.ul
 ·intro n c;by_cases e:n=nm
  ·subst e;rw [f];exact zab
  ·rw [g n e];exact q (w.sd n c) (w.oS n c) (λz=>e (by injection z))
 ·intro n c;by_cases e:n=nm
  ·subst e;rw [f,yak,ybq];refine ⟨w.kn n c,by simp,λa F b v e => ?_⟩;have B:b=k:=by simpa using v
   rw [e,B] at F;exact D F
  ·rw [g n e];exact w.kn n c
 ·intro n c p d;by_cases e:n=nm
  ·subst e;rw [f] at d;rcases yau.mp d with z | z
   ·exact w.uk n c p z
   ·rw [yai.mp z];exact I
  ·rw [g n e] at d;exact w.uk n c p d
 ·intro n c;obtain ⟨kv,a,b⟩:=w.wd n c;exact ⟨kv,q a (w.oW n c) (λz=>nomatch z),b⟩
 ·intro n c p d;have old:∀ p∈m.ks n,∃ ts,upd (upd H l (.lst [])) (m.S nm) (.dK (ksD (m.ks nm ++ [(k,l)]))) p.2=some (.lst (ts.map V.ref))/\StAt (upd (upd H l (.lst [])) (m.S nm) (.dK (ksD (m.ks nm ++ [(k,l)])))) ts (m.ss n p.1):=λp d=>by
   obtain ⟨ts,a,b⟩:=w.ld n c p d;exact ⟨ts,q a (w.oL n c p d) (λz=>nomatch z),b.mono G⟩
  by_cases e:n=nm
  ·subst e;rw [f] at d;rcases yau.mp d with z | z
   ·exact old p z
   ·rw [yai.mp z];refine ⟨[],?_,?_⟩
    ·show upd _ _ _ l=_;rw [zaf A];exact zab
    ·show StAt _ [] (m.ss n k);rw [w.s0 n c k D];exact .nil
  ·rw [g n e] at d;exact old p d
 ·exact w.sl
 ·intro n c j u;by_cases e:n=nm
  ·subst e;rw [f,yak,yau,not_or] at u;exact w.s0 n c j u.1
  ·rw [g n e] at u;exact w.s0 n c j u
 ·exact i w.omk
 ·exact i w.ost
 ·exact i w.osr
 ·exact i w.olw
 ·exact λn c=>i (w.oS n c)
 ·exact λn c=>i (w.oW n c)
 ·intro n c p d;by_cases e:n=nm
  ·subst e;rw [f] at d;rcases yau.mp d with z | z
   ·exact i (w.oL n c p z)
   ·rw [yai.mp z];exact if_pos rfl
  ·rw [g n e] at d;exact i (w.oL n c p d)
 ·intro b r e;by_cases v:b=m.S nm
  ·rw [v];exact .inr (.inl ⟨_,zab⟩)
  ·rw [zaf v];by_cases s:b=l
   ·rw [s];exact .inr (.inr ⟨_,zab⟩)
   ·rw [zaf s];have E:(if b=l then some (.L nm k) else m.own b)=some r:=e;rw [if_neg s] at E;exact w.live b r E
theorem Mks.setSs {s:List zax} {ts:List Addr} (w:Mks C H mk m) (D:nm∈m.names) (u:(k,l)∈m.ks nm) (c:Ch1 l H H') (y:H' l=some (.lst (ts.map V.ref))) (hs:StAt H' ts s) (sl:s.length<=m.cnt+1):Mks C H' mk (m.setSs nm k s):=by
 have t:m.own l=some (.L nm k):=w.oL nm D _ u;have f:∀ {b:Addr} {o:HO} {r:Role},H b=some o->m.own b=some r->r ≠ .L nm k->H' b=some o:=λ{b o r} e h n=>c _ _ (zb3 h t n) e;have B:∀ b xs,H b=some (.tup xs)->H' b=some (.tup xs):=λb xs e=>c _ _ (λz=>by rw [<- z,w.tup e] at t;cases t) e;constructor
 ·exact f w.obj w.omk (λz=>nomatch z)
 ·obtain ⟨kv,a,b⟩:=w.told;exact ⟨kv,f a w.ost (λz=>nomatch z),b⟩
 ·exact w.l0
 ·exact w.l1
 ·exact f w.srd w.osr (λz=>nomatch z)
 ·exact f w.lwd w.olw (λz=>nomatch z)
 ·exact w.nd
 ·exact w.ul
 ·exact λn d=>f (w.sd n d) (w.oS n d) (λz=>nomatch z)
 ·exact w.kn
 ·exact w.uk
 ·intro n d;obtain ⟨kv,a,b⟩:=w.wd n d;exact ⟨kv,f a (w.oW n d) (λz=>nomatch z),b⟩
 ·intro n d p g;by_cases e:n=nm/\p.1=k
  ·obtain ⟨rfl,e2⟩:=e;have v:p.2=l:=zhU (w.kn n d) g u e2;refine ⟨ts,by rw [v];exact y,?_⟩;show StAt H' ts (if n=n/\p.1=k then s else _);rw [if_pos ⟨rfl,e2⟩];exact hs
  ·obtain ⟨i,a,b⟩:=w.ld n d p g;refine ⟨i,f a (w.oL n d p g) (λz=>e (by injection z with z1 z2;exact ⟨z1,z2⟩)),?_⟩;show StAt H' i (if n=nm/\p.1=k then s else _);rw [if_neg e];exact b.mono B
 ·intro n j;show (if n=nm/\j=k then s else m.ss n j).length<=m.cnt+1;split
  ·exact sl
  ·exact yfI (w.sl n j)
 ·intro n d j A;show (if n=nm/\j=k then s else m.ss n j) = [];rw [if_neg]
  ·exact w.s0 n d j A
  ·rintro ⟨rfl,rfl⟩;exact A (yao.mpr ⟨_,u,rfl⟩)
 ·exact w.omk
 ·exact w.ost
 ·exact w.osr
 ·exact w.olw
 ·exact w.oS
 ·exact w.oW
 ·exact w.oL
 ·intro b r e;by_cases q:b=l
  ·rw [q];exact .inr (.inr ⟨_,y⟩)
  ·rcases w.live b r e with ⟨_,_,_,z⟩ | ⟨_,z⟩ | ⟨_,z⟩
   ·exact .inl ⟨_,_,_,c _ _ q z⟩
   ·exact .inr (.inl ⟨_,c _ _ q z⟩)
   ·exact .inr (.inr ⟨_,c _ _ q z⟩)
theorem Mks.wrote {kv:List (Key×V)} (w:Mks C H mk m) (s:nm∈m.names) (nd:(kv.map (·.1)).Nodup) (q:∀ p∈kv,p.1∈m.U nm):Mks C (upd H (m.W nm) (.dK kv)) mk m:=by
 have j:=w.oW nm s;have d:∀ {b:Addr} {o:HO} {r:Role},H b=some o->m.own b=some r->r ≠ .W nm->upd H (m.W nm) (.dK kv) b=some o:=λ{b o r} e h n=>(zaf (zb3 h j n)).trans e;have l:∀ b xs,H b=some (.tup xs)->upd H (m.W nm) (.dK kv) b=some (.tup xs):=λb xs e=>(zaf (λz=>by rw [<- z,w.tup e] at j;cases j)).trans e;constructor
 ·exact d w.obj w.omk (λz=>nomatch z)
 ·obtain ⟨kv,a,b⟩:=w.told;exact ⟨kv,d a w.ost (λz=>nomatch z),b⟩
 ·exact w.l0
 ·exact w.l1
 ·exact d w.srd w.osr (λz=>nomatch z)
 ·exact d w.lwd w.olw (λz=>nomatch z)
 ·exact w.nd
 ·exact w.ul
 ·exact λn c=>d (w.sd n c) (w.oS n c) (λz=>nomatch z)
 ·exact w.kn
 ·exact w.uk
 ·intro n c;by_cases e:n=nm
  ·subst e;exact ⟨kv,zab,nd,q⟩
  ·obtain ⟨i,a,b⟩:=w.wd n c;exact ⟨i,d a (w.oW n c) (λz=>e (by injection z)),b⟩
 ·intro n c p f;obtain ⟨k,a,b⟩:=w.ld n c p f;exact ⟨k,d a (w.oL n c p f) (λz=>nomatch z),b.mono l⟩
 ·exact w.sl
 ·exact w.s0
 ·exact w.omk
 ·exact w.ost
 ·exact w.osr
 ·exact w.olw
 ·exact w.oS
 ·exact w.oW
 ·exact w.oL
 ·intro b r e;by_cases g:b=m.W nm
  ·rw [g];exact .inr (.inl ⟨_,zab⟩)
  ·rcases w.live b r e with ⟨_,_,_,z⟩ | ⟨_,z⟩ | ⟨_,z⟩
   ·exact .inl ⟨_,_,_,(zaf g).trans z⟩
   ·exact .inr (.inl ⟨_,(zaf g).trans z⟩)
   ·exact .inr (.inr ⟨_,(zaf g).trans z⟩)
end
theorem sqC {a b:TS} {D:Ends} {c:L2.St} {H:Hp} (I:L2.St->Hp->Prop) (e:∀ c H,I c H->b D c H) (d:∀ N:L2.St->Hp->Prop,(∀ c H,I c H->N c H)->a { D with nx:=N } c H):tSeq a b D c H:=d (b D) e
noncomputable def close (L:Int) (ss:List zax):List zax:=match ss.getLast? with
 | some (f,none,r)=>ss.dropLast ++ [(f,some L,r)]
 | _=>ss
def moreS (L:Int):Option Addr->List zax
 | none => []
 | some r => [(L,none,r)]
noncomputable def wrS (L:Int) (ss:List zax) (row:Option Addr):List zax:=close L ss++moreS L row
theorem zdM (L:Int) (i:List zax) (f:Int) (r:Addr):close L (i ++ [(f,none,r)])=i ++ [(f,some L,r)]:=by
 unfold close;rw [ydP];simp
theorem zdP (L:Int) (i:List zax) (f j:Int) (r:Addr):close L (i ++ [(f,some j,r)])=i ++ [(f,some j,r)]:=by
 unfold close;rw [ydP]
theorem zgA (L:Int) (ss:List zax):(close L ss).length=ss.length:=by
 rcases ydD ss with rfl | ⟨i,⟨f,o,r⟩,e⟩
 ·rfl
 ·rw [ydE] at e;subst e;cases o with
  | none=>rw [zdM];simp
  | some j=>rw [zdP]
theorem StAt.snoc {H:Hp} {ts:List Addr} {ss:List zax} {t:Addr} {s:zax} (h:StAt H ts ss) (e:H t=some (.tup (stV s))):StAt H (ts ++ [t]) (ss ++ [s]):=by
 induction h with
 | nil=>exact .cons e .nil
 | cons a _ b=>exact .cons a b
theorem StAt.split {H:Hp}:∀ {ts:List Addr} {i:List zax} {s:zax},StAt H ts (i ++ [s])->∃ it t,ts=it ++ [t]/\StAt H it i/\H t=some (.tup (stV s))
 | [],[],_,h=>nomatch h
 | [],_ :: _,_,h=>nomatch h
 | t :: ts,[],s,.cons a b=>by
  cases b;exact ⟨[],t,rfl,.nil,a⟩
 | t :: ts,x :: i,s,.cons a b=>by
  obtain ⟨it,t',rfl,c,d⟩:=StAt.split b;exact ⟨t :: it,t',rfl,.cons a c,d⟩
theorem zeJ {names:List Str} {f:Str->Addr} {nm:Str} (h:nm∈names):valV (nmD names f) (.inr nm)=some (.ref (f nm)):=by
 induction names with
 | nil=>cases h
 | cons n ns a =>
  show valV ((ybs n,V.ref (f n)) :: nmD ns f) (.inr nm)=_;by_cases e:n=nm
  ·rw [zaT (congrArg ybs e),e]
  ·rw [zaS (λz=>e (Sum.inr.inj z)),a ((yaJ.mp h).resolve_left λz=>e z.symm)]
theorem zem {ks:List (Key×Addr)} {k:Key} {v:V} (h:valV (ksD ks) k=some v):∃ l,v = .ref l/\(k,l)∈ks:=by
 induction ks with
 | nil=>cases h
 | cons p ks c =>
  have h':valV ((p.1,V.ref p.2) :: ksD ks) k=some v:=h;by_cases e:p.1=k
  ·rw [zaT e] at h';cases h';exact ⟨p.2,rfl,by rw [<- e];exact yax ..⟩
  ·rw [zaS e] at h';obtain ⟨l,a,b⟩:=c h';exact ⟨l,a,yal _ b⟩
theorem zd7 {ks:List (Key×Addr)} {k:Key} (h:valV (ksD ks) k=none):k∉ks.map (·.1):=by
 have:=zhI h;unfold ksD at this;rw [yaU] at this;exact this
theorem ksD_mem {ks:List (Key×Addr)} {k:Key} {l:Addr} (a:(ks.map (·.1)).Nodup) (h:(k,l)∈ks):valV (ksD ks) k=some (.ref l):=by
 cases e:valV (ksD ks) k with
 | none=>exact absurd (yao.mpr ⟨_,h,rfl⟩) (zd7 e)
 | some v =>
  obtain ⟨b,rfl,h'⟩:=zem e;have e2:b=l:=zhU a h' h rfl;rw [e2]
theorem ksD_put {ks:List (Key×Addr)} {k:Key} {l:Addr} (h:valV (ksD ks) k=none):putK (ksD ks) k (.ref l)=ksD (ks ++ [(k,l)]):=by
 rw [zd6 _ h];unfold ksD;rw [yak];rfl
structure Wrt (H:Hp) (m m':MR) (nm:Str) (k:Key) (row:Option Addr):Prop where
 names:m'.names=m.names
 L:m'.L=m.L
 sc:m'.sc=m.sc
 U:m'.U=m.U
 cnt:m'.cnt=m.cnt+1
 ss:∀ n j,m'.ss n j=if n=nm/\j=k then wrS m.L (m.ss nm k) row else m.ss n j
 own:∀ b,m'.own b≠none->m.own b≠none\/H b=none
 up:∀ b,m.own b≠none->m'.own b≠none
 keys:∀ n j,j∈(m'.ks n).map (·.1)↔j∈(m.ks n).map (·.1)\/(n=nm/\j=k)
def zfw (C:Addr):Sp:=λvs H Q _=>∃ (mk:Addr) (m:MR) (nm:Str) (k:Key) (row:Option Addr),vs = [.ref mk,.str nm,kV k,adV row]/\Mks C H mk m/\nm∈m.names/\k∈m.U nm/\m.cnt < 90000 /\
 ∀ (H':Hp) (m':MR),Mks C H' mk m'->Fo m.own H H'->Wrt H m m' nm k row->Q .non H'
theorem zgC {kv:List (Key×V)} {k:Key} {v:V} (f:(kv.map (·.1)).Nodup):((putK kv k v).map (·.1)).Nodup:=by
 cases e:valV kv k with
 | none =>
  rw [zd6 _ e,yak,ybq];refine ⟨f,by simp,λa d b g e2 => ?_⟩;have c:b=k:=by simpa using g
  rw [e2,c] at d;exact zhI e d
 | some x =>
  have z:(putK kv k v).map (·.1)=kv.map (·.1):=by
   unfold putK;rw [zbN,e];simp only [Option.isSome_some,if_true,yaU];apply yd8;intro p _;show (if p.1=k then (p.1,v) else p).1=p.1;split <;> rfl
  rw [z];exact f
theorem put_mem {kv:List (Key×V)} {k:Key} {v:V} {p:Key×V} (h:p∈putK kv k v):p.1=k\/p.1∈kv.map (·.1):=by
 unfold putK at h;split at h
 ·obtain ⟨q,a,e⟩:=yao.mp h;right;rw [<- e];split
  ·exact yao.mpr ⟨q,a,rfl⟩
  ·exact yao.mpr ⟨q,a,rfl⟩
 ·rcases yau.mp h with z | z
  ·exact .inr (yao.mpr ⟨p,z,rfl⟩)
  ·left;rw [yai.mp z]
theorem ixN_last (n:Nat):ixN (n+1) (-1)=some n:=by
 unfold ixN;rw [if_neg (by decide),if_pos (by omega)]
 congr 1
 omega
theorem zcT (T:Txt K mg):FnOk P w K mg base CX0 1 T.Makes_write.f T.Makes_write.fd ["self", "table", "key", "row"] (zfw T.C_Makes):=by
 refine T.Makes_write.fn.ok sc_Makes_write (λvs H Q E h => ?_) (λaU A outer s H vs Q E hr h => ?_)
 ·obtain ⟨Y,m,nm,k,row,rfl,_⟩:=h;rfl
 ·obtain ⟨Y,m,nm,k,row,rfl,M,hn,hu,hc,q⟩:=h;have ab:=hu_of hr;refine ⟨_,((zad (zas (i:=4) sc_Makes_write.nd rfl (yaL rfl) (pe_dsetd (zaM ab (zaE (K:=K) rfl (pv 0) rfl) (pv 1) (λ_ _=>rfl)) (pv 2) (za3 zae) ⟨rfl,rfl,rfl,rfl⟩))
   (zad (ps_if (PW.pt (zgn (pt_lstK (K:=K) rfl (pv 4)) (zeP (zdg (zid (pe_ix (zak (K:=K) rfl) (pe_ix (zam (K:=K) rfl) (pv 4) (pe_un zcS zac) (λ_ _=>rfl)) zac (λ_ _=>rfl))))))) (zag (ps_asg (zaU (zaa (pe_ix (zak (K:=K) rfl) (pe_ix (zam (K:=K) rfl) (pv 4) (pe_un zcS zac) (λ_ _=>rfl)) zac (λ_ _=>rfl)) (zaa (zaE (K:=K) rfl (pv 0) rfl) (zaa (pe_ix (zak (K:=K) rfl) (pe_ix (zam (K:=K) rfl) (pv 4) (pe_un zcS zac) (λ_ _=>rfl)) zac (λ_ _=>rfl)) zae)))) (pg_sub (pv 4) (pe_un zcS zac) set_list))) zau)
   (zad (ps_if (zdg (zht (pv 3))) (zag (zaI (zdV (K:=K) rfl ya3 ybW ybX zbG (pv 4) (zaa (zaU (zaa (zaE (K:=K) rfl (pv 0) rfl) (zaa zez (zaa (pv 3) zae)))) zae)))) zau)
   (zag (zbu ab (zaM ab (zaE (K:=K) rfl (pv 0) rfl) (pv 1) (λ_ _=>rfl)) (pv 2) (zaE (K:=K) rfl (pv 0) rfl) rfl)))))),?_⟩
  have get:∀ {H':Hp} {m':MR},Mks T.C_Makes H' Y m'->nm∈m'.names->DGet H' m'.sr (.str nm) (some (.ref (m'.S nm))):=λ{H' m'} M' ap=>zeJ ap ▸ DGet.k (k:=ybs nm) M'.srd;refine sqC (λZ I=>∃ (a:MR) (l:Addr),Z = [some (.ref Y),some (.str nm),some (kV k),some (adV row),some (.ref l)]/\Mks T.C_Makes I Y a/\(k,l)∈a.ks nm/\Fo m.own H I/\a.names=m.names/\a.L=m.L/\a.sc=m.sc/\a.U=m.U/\a.cnt=m.cnt/\a.ss=m.ss /\
   (∀ b,a.own b≠none->m.own b≠none\/H b=none)/\(∀ b,m.own b≠none->a.own b≠none)/\∀ n j,j∈(a.ks n).map (·.1)↔j∈(m.ks n).map (·.1)\/(n=nm/\j=k)) ?_ ?_
  ·rintro Z I ⟨a,l,rfl,M1,u,fo,en,eL,az,eU,ec,aa,ow,up,ke⟩;have d:nm∈a.names:=by rw [en];exact hn
   have ol:=M1.oL nm d _ u;obtain ⟨ts,R,hS⟩:=M1.ld nm d _ u;have D:(m.ss nm k).length<=m.cnt:=by
    have:=M1.sl nm k;rw [aa,ec] at this;exact this
   rw [aa] at hS;have ay:Y≠l:=zb3 M1.omk ol (λz=>nomatch z);refine sqC (λZ O=>∃ g,Z = [some (.ref Y),some (.str nm),some (kV k),some (adV row),some (.ref l)]/\Ch1 l I O/\O l=some (.lst (g.map V.ref))/\StAt O g (close m.L (m.ss nm k))) ?_ ?_
   ·rintro Z O ⟨g,rfl,c2,l2,S2⟩;have as:O Y=some (.ins T.C_Makes a.dx (mkF a.sc m.L a.st a.sr a.lw)):=by
     rw [<- eL];exact c2 _ _ ay M1.obj
    have aI:g.length<=m.cnt:=by rw [S2.length,zgA];exact D
    refine sqC (λZ C=>∃ ac,Z = [some (.ref Y),some (.str nm),some (kV k),some (adV row),some (.ref l)]/\Ch1 l I C/\C l=some (.lst (ac.map V.ref))/\StAt C ac (wrS m.L (m.ss nm k) row)) ?_ ?_
    ·rintro Z C ⟨ac,rfl,c3,l3,S3⟩;have M3:=M1.setSs d u c3 l3 S3 (by
      rw [wrS,yaK,zgA,ec];cases row with
      | none=>exact yfI D
      | some r=>exact yeX D)
     obtain ⟨kv,hW,ah,al⟩:=M3.wd nm d;have aj:DGet C a.lw (.str nm) (some (.ref (a.W nm))):=zeJ d ▸ DGet.k (k:=ybs nm) M3.lwd;have klen:kv.length < yaO:=by
      have sub:(kv.map (·.1)).length<=(a.U nm).length:=ah.length_le_of_subset (λj hj=>by
       obtain ⟨p,hp,e⟩:=yao.mp hj;rw [<- e];exact al p hp)
      rw [yab] at sub;exact zai (by have:=M1.ul nm d;omega)
     refine ea rfl (gF (v := .int a.L) M3.obj T.l_Makes T.n_Makes_last (by kernel_rfl) ?_);refine ea rfl (gF (v := .ref a.lw) M3.obj T.l_Makes T.n_Makes_last_written (by kernel_rfl) (ea rfl ⟨a.lw,_,rfl,aj,ea rfl ⟨a.W nm,_,rfl,.inl ⟨kv,k,hW,rfl,klen,rfl⟩,?_⟩⟩));have M4:=M3.wrote (nm:=nm) (kv:=putK kv k (.int a.L)) d (zgC ah) (λp hp=>(put_mem hp).elim (λz=>by rw [z,show (a.setSs nm k _).U=m.U from eU];exact hu) λz=>by
      obtain ⟨p',aq,e⟩:=yao.mp z;rw [<- e];exact al p' aq)
     refine q _ _ M4 (λb o e1 e2 => ?_) ⟨en,eL,az,eU,by show a.cnt+1=_;rw [ec],λn j => ?_,ow,up,ke⟩
     ·have e3:=fo b o e1 e2;have nb:∀ {c:Addr} {r:Role},a.own c=some r->b≠c:=λ{c r} h z=>by
       rcases ow c (by rw [h];exact (λz=>nomatch z)) with y | y
       ·rw [<- z] at y;exact y e1
       ·rw [<- z,e2] at y;cases y
      have nW:b≠a.W nm:=nb (M1.oW nm d);show upd C (a.W nm) _ b=_;rw [zaf nW];exact c3 _ _ (nb ol) e3
     ·show (if n=nm/\j=k then _ else a.ss n j)=_;rw [aa]
    ·intro N G;cases row with
     | none=>exact ea rfl (ea rfl (iteNS rfl (G _ _ ⟨g,rfl,c2,l2,by rw [wrS,moreS,ych];exact S2⟩)))
     | some r =>
      refine ea rfl (ea rfl (ite2 (λ_ => ?_) (λz=>absurd (by rw [decide_eq_false (λz=>nomatch z)];rfl) z)));refine ea rfl ⟨.inl ⟨rfl,_,SqL.of l2⟩,ea rfl (gF (v := .int m.L) as T.l_Makes T.n_Makes_last (by kernel_rfl) (ea rfl ⟨zah (show 3<=100000 by decide),λt ht => ?_⟩))⟩;have J:Same O (upd O t (.tup [.int m.L,.non,adV (some r)])):=Same.new ht;have t3:upd O t (.tup [.int m.L,.non,adV (some r)]) t=some (.tup [.int m.L,.non,adV (some r)]):=zab;generalize upd O t (.tup [.int m.L,.non,adV (some r)])=C at J t3 ⊢;have l3:=J _ _ l2;refine ⟨l,_,_,rfl,rfl,l3,zai (by rw [yab];omega),G _ _ ⟨g ++ [t],rfl,?_,?_,?_⟩⟩
      ·exact λb o n e=>(zaf n).trans (J _ _ (c2 b o n e))
      ·rw [zab,yak];rfl
      ·have kt:∀ b xs,C b=some (.tup xs)->upd C l (.lst ((g.map V.ref) ++ [.ref t])) b=some (.tup xs):=λb xs e=>(zaf (ne_of e l3 (λz=>nomatch z))).trans e;exact StAt.snoc ((S2.mono λ_ _=>J _ _).mono kt) (kt _ _ t3)
   ·intro N G;have av:I Y=some (.ins T.C_Makes a.dx (mkF a.sc m.L a.st a.sr a.lw)):=by
     rw [<- eL];exact M1.obj
    rcases ydD (m.ss nm k) with e0 | ⟨i,⟨f,o,r⟩,e0⟩
    ·rw [e0] at hS G;have et:ts = []:=yeY hS.length;subst et;exact ea rfl ⟨l,[],rfl,SqL.of R,iteF (G _ _ ⟨[],rfl,λ_ _ _ e=>e,R,.nil⟩)⟩
    ·rw [ydE] at e0;rw [e0] at hS G;obtain ⟨it,t,rfl,S0,ht⟩:=hS.split;rw [yak] at R;have ne:(it.map V.ref ++ [t].map V.ref) ≠ []:=by simp
     have la:atI (it.map V.ref ++ [V.ref t]) (-1)=some (V.ref t):=zhK _ _;refine ea rfl ⟨l,_,rfl,SqL.of R,ite2 (λ_ => ?_) (λz => ?_)⟩
     ·refine ea rfl ⟨1,rfl,ixL (SqL.of R) la (ixTc (v:=toV o) (SqT.of ht) rfl (ea rfl (ite2 (λy => ?_) (λy => ?_))))⟩
      ·cases o with
       | some j=>exact absurd (of_decide_eq_true y) (λz=>nomatch z)
       | none =>
        refine ea rfl ⟨1,rfl,ixL (SqL.of R) la (ixTc (v := .int f) (SqT.of ht) rfl (ea rfl (gF (v := .int m.L) av T.l_Makes T.n_Makes_last (by kernel_rfl) (ea rfl ⟨1,rfl,ixL (SqL.of R) la (ixTc (v := .ref r) (SqT.of ht) rfl ⟨zah (show 3<=100000 by decide),λt2 aA => ?_⟩)⟩))))⟩;have J:Same I (upd I t2 (.tup [.int f,.int m.L,.ref r])):=Same.new aA;have t3:upd I t2 (.tup [.int f,.int m.L,.ref r]) t2=some (.tup [.int f,.int m.L,.ref r]):=zab;generalize upd I t2 (.tup [.int f,.int m.L,.ref r])=C at J t3 ⊢;have l3:=J _ _ R;refine ea rfl ⟨1,rfl,l,_,-1,it.length,rfl,rfl,l3,?_,G _ _ ⟨it ++ [t2],rfl,?_,?_,?_⟩⟩
        ·rw [yaK,yab];exact ixN_last _
        ·exact λb o n e=>(zaf n).trans (J _ _ e)
        ·rw [zab,yak,List.set_append_right _ _ (by rw [yab];exact yaj _),yab,Nat.sub_self];rfl
        ·have kt:∀ b xs,C b=some (.tup xs)->∀ o,upd C l o b=some (.tup xs):=λb xs e o=>(zaf (ne_of e l3 (λz=>nomatch z))).trans e;rw [zdM];exact StAt.snoc ((S0.mono λ_ _=>J _ _).mono λb xs e=>kt b xs e _) (kt _ _ t3 _)
      ·cases o with
       | none=>exact absurd (decide_eq_true rfl) y
       | some j =>
        refine G _ _ ⟨it ++ [t],rfl,λ_ _ _ e=>e,by rw [yak];exact R,?_⟩;rw [zdP];exact S0.snoc ht
     ·exact absurd (by simp) z
  ·intro N G;have ew:∀ l0,H l0=none->Same H (upd H l0 (.lst [])):=λl0 h=>Same.new h;refine ea rfl (gF (v := .ref m.sr) M.obj T.l_Makes T.n_Makes_stretches (by kernel_rfl) (ea rfl ⟨m.sr,_,rfl,get M hn,m.S nm,rfl,.inl ⟨_,.inl (M.sd nm hn)⟩,ea rfl ⟨yaW _,λl0 B=>⟨ksD (m.ks nm),k,rfl,(ew l0 B) _ _ (M.sd nm hn),?_,λv hv => ?_,λhv => ?_⟩⟩⟩))
   ·rw [ksD,yab];exact zai (by have:=M.klen hn;omega)
   ·obtain ⟨l,rfl,u⟩:=zem hv;refine G _ _ ⟨m,l,rfl,M.same (ew l0 B),u,Fo.of (ew l0 B),rfl,rfl,rfl,rfl,rfl,rfl,λb h => .inl h,λb h=>h,λn j=>⟨.inl,λz=>z.elim id ?_⟩⟩;rintro ⟨rfl,rfl⟩;exact yao.mpr ⟨_,u,rfl⟩
   ·rw [ksD_put hv];have hk:=zd7 hv;refine G _ _ ⟨m.addKey nm k l0,l0,rfl,M.addKey hn hk hu B,?_,λb o e1 e2 => ?_,rfl,rfl,rfl,rfl,rfl,rfl,λb h => ?_,λb h => ?_,λn j => ?_⟩
    ·show (k,l0)∈(if nm=nm then _ else _);rw [if_pos rfl];exact yaN _ (yai.mpr rfl)
    ·rw [zaf (λz=>by rw [z,M.oS nm hn] at e1;cases e1),zaf (zar e2 B)];exact e2
    ·by_cases e:b=l0
     ·right;rw [e];exact B
     ·left;have h':(if b=l0 then some (Role.L nm k) else m.own b)≠none:=h;rw [if_neg e] at h';exact h'
    ·show (if b=l0 then some (Role.L nm k) else m.own b)≠none;split
     ·exact λz=>nomatch z
     ·exact h
    ·show j∈((if n=nm then m.ks nm ++ [(k,l0)] else m.ks n).map (·.1))↔_;by_cases e:n=nm
     ·subst e;rw [if_pos rfl,yak,yau];exact ⟨λz=>z.imp id λy=>⟨rfl,by simpa using y⟩,λz=>z.imp id λy=>by simpa using y.2⟩
     ·rw [if_neg e];exact ⟨.inl,λz=>z.elim id λy=>absurd y.1 e⟩
def zbA (l:List Key):Prop:=l.Pairwise λx y=>ltKey y x=false
theorem zc2 {α:Type} {lt:α->α->Bool} (c:∀ a b,lt a b=false->lt b a=false->a=b):∀ {l m:List α},l.Perm m->l.Pairwise (λx y=>lt y x=false)->m.Pairwise (λx y=>lt y x=false)->l=m
 | [],m,p,_,_=>(List.perm_nil.mp p.symm).symm
 | x :: l,m,p,s1,s2=>by
  match m,p,s2 with
  | [],p,_=>exact absurd (List.perm_nil.mp p) (by simp)
  | y :: m,p,s2 =>
   rw [List.pairwise_cons] at s1 s2;have e:x=y:=by
    have h1:x∈y :: m:=p.mem_iff.mp (yax ..);have h2:y∈x :: l:=p.mem_iff.mpr (yax ..);rcases yaJ.mp h1 with z | z
    ·exact z
    ·rcases yaJ.mp h2 with d | d
     ·exact d.symm
     ·exact c x y (s2.1 x z) (s1.1 y d)
   subst e;rw [zc2 c ((List.perm_cons _).mp p) s1.2 s2.2]
theorem zgL:∀ (p:Str) (l:List Str),risingS p l=true->(p :: l).Pairwise (λa b=>a.cps.toList<=b.cps.toList)
 | p,[],_=>List.pairwise_singleton _ _
 | p,x :: r,h=>by
  have h:(!ltCps x.cps.toList p.cps.toList&&risingS x r)=true:=h;rw [ya9,ltCps_eq] at h;have h1:p.cps.toList<=x.cps.toList:=List.not_lt.mp (by simpa using h.1);have d:=zgL x r h.2;refine List.pairwise_cons.mpr ⟨λy c => ?_,d⟩;rcases yaJ.mp c with rfl | c
  ·exact h1
  ·exact List.le_trans h1 (List.rel_of_pairwise_cons d c)
theorem sorted_pw:∀ (l:List Str),sortedS l=true->l.Pairwise (λa b=>a.cps.toList<=b.cps.toList)
 | [],_ => .nil
 | x :: r,h=>zgL x r h
theorem zgZ {ns:List Int} (h:ns.Pairwise (· <= ·)):zbA (ns.map ycy):=by
 unfold zbA;rw [ydL];exact h.imp λ{a b} z=>by simp [ltKey];omega
theorem zg0 {ns:List Str} (h:sortedS ns=true):zbA (ns.map ybs):=by
 unfold zbA;rw [ydL];exact (sorted_pw ns h).imp λ{a b} z=>by
  show decide (b.cps.toList < a.cps.toList)=false;simpa using z
def oneK (l:List Key):Prop:=(∀ k∈l,∃ i,k = .inl i)\/∀ k∈l,∃ y,k = .inr y
theorem ints_of:∀ {l:List Key},(∀ k∈l,∃ i:Int,k = .inl i)->∃ ns:List Int,l=ns.map ycy
 | [],_=>⟨[],rfl⟩
 | k :: l,h=>by
  obtain ⟨i,rfl⟩:=h k (yax ..);obtain ⟨ns,rfl⟩:=ints_of λj a=>h j (yal _ a);exact ⟨i :: ns,rfl⟩
theorem zdQ:∀ {l:List Key},(∀ k∈l,∃ y:Str,k = .inr y)->∃ ns:List Str,l=ns.map ybs
 | [],_=>⟨[],rfl⟩
 | k :: l,h=>by
  obtain ⟨i,rfl⟩:=h k (yax ..);obtain ⟨ns,rfl⟩:=zdQ λj a=>h j (yal _ a);exact ⟨i :: ns,rfl⟩
theorem sort_keys {p:Addr} {kvs:List (Key×V)} {H:Hp} {Q:VK} (g:H p=some (.dK kvs)) (one:oneK (kvs.map (·.1))) (h:kvs.length < 64)
  (q:∀ (l:Addr) (a:List Key),H l=none->a.Perm (kvs.map (·.1))->zbA a->Q (.ref l) (upd H l (.lst (a.map kV)))) :
  (∃ (b:Addr) (kvs:List (Key×V)) (ns:List Str),[V.ref p] = [.ref b]/\H b=some (.dK kvs)/\kvs.map (·.1)=ns.map (ybs:Str->Key)/\ns.length < 64/\∀ (l:Addr) (a:List Str),H l=none->a.Perm ns->sortedS a=true->Q (.ref l) (upd H l (.lst (a.map V.str)))) \/
  ∃ (b:Addr) (kvs:List (Key×V)) (ns:List Int),[V.ref p] = [.ref b]/\H b=some (.dK kvs)/\kvs.map (·.1)=ns.map (ycy:Int->Key)/\ns.length < 64/\∀ (l:Addr) (a:List Int),H l=none->a.Perm ns->a.Pairwise (· <= ·)->Q (.ref l) (upd H l (.lst (a.map V.int))):=by
 rcases one with o | o
 ·obtain ⟨ns,e⟩:=ints_of o;refine .inr ⟨p,kvs,ns,rfl,g,e,?_,λl a d f c => ?_⟩
  ·have:=congrArg ycb e;rw [yab,yab] at this;omega
  ·have z:=q l (a.map ycy) d (by rw [e];exact f.map _) (zgZ c);rw [yaU] at z;exact z
 ·obtain ⟨ns,e⟩:=zdQ o;refine .inl ⟨p,kvs,ns,rfl,g,e,?_,λl a d f c => ?_⟩
  ·have:=congrArg ycb e;rw [yab,yab] at this;omega
  ·have z:=q l (a.map ybs) d (by rw [e];exact f.map _) (zg0 c);rw [yaU] at z;exact z
theorem zcd {X:Cx} (hc:X.calm=true):CallR X (.builtin "sorted") (λxs H Q=>∃ (p:Addr) (kvs:List (Key×V)),xs = [.ref p]/\H p=some (.dK kvs)/\oneK (kvs.map (·.1))/\kvs.length < 64/\∀ (l:Addr) (a:List Key),H l=none->a.Perm (kvs.map (·.1))->zbA a->Q (.ref l) (upd H l (.lst (a.map kV)))):=by
 rintro pins s c H xs us Q I r ⟨p,kvs,rfl,d,one,b,q⟩;exact CallR.or (zfV hc) (zf0 hc) pins s c H [.ref p] us Q I r (sort_keys d one b q)
theorem zhk {c ns h d:List Key} {f:Key->Option Addr} (p1:c.Perm h) (i:ns.Perm d) (n:zbA c) (j:zbA ns) (o:h.Nodup) (m:d.Nodup) (sub:∀ k∈d,k∈h) (l:∀ k,(f k).isSome=true↔k∈d) :
  c.filter (λk=>(f k).isSome)=ns:=by
 refine zc2 (lt:=ltKey) (λa b=>zeD) ?_ (n.sublist yfg) j;have g:(c.filter λk=>(f k).isSome).Nodup:=(p1.nodup_iff.mpr o).sublist yfg;have e:ns.Nodup:=i.nodup_iff.mpr m;refine (List.perm_ext_iff_of_nodup g e).mpr λk => ?_;rw [ye6,p1.mem_iff,i.mem_iff,l k];exact ⟨λz=>z.2,λz=>⟨sub k z,z⟩⟩
structure Mka (C Cs:Addr) (H:Hp) (mk:Addr) (m:MR) (tabs:List Tab) (ords:List Col):Prop where
 ms:Mks C H mk m
 sc:SchemaAt Cs H m.sc tabs ords
 ok:zaY tabs
 n1:m.own m.sc=none
 n2:∀ dx tt oo dd,H m.sc=some (.ins Cs dx (scF tt oo dd))->m.own dd=none
 nm:m.names=tabs.map (·.1)
 one:∀ nm∈m.names,oneK (m.U nm)
section
variable {C Cs mk:Addr} {H H':Hp} {m:MR} {tabs:List Tab} {ords:List Col}
theorem Mka.scfo (a:Mka C Cs H mk m tabs ords) (f:Fo m.own H H'):SchemaAt Cs H' m.sc tabs ords/\∀ dx l n dd,H' m.sc=some (.ins Cs dx (scF l n dd))->m.own dd=none:=by
 have p:Kept H H'->True:=λ_=>trivial;obtain ⟨dx,l,n,dd,o,ts,cas,r,e,b,c,d,g,h⟩:=a.sc;have j:∀ b xs,H b=some (.tup xs)->H' b=some (.tup xs):=λb xs z=>f b _ (a.ms.tup z) z;have k:=f _ _ a.n1 e;have i:=a.n2 _ _ _ _ e;refine ⟨⟨dx,l,n,dd,o,ts,cas,r,k,f _ _ (a.ms.frz b) b,⟨Paired.mapP c.1 ?_,c.2⟩,j _ _ d,Paired.mapP g λ_ _ z=>j _ _ z,f _ _ i h⟩,λv A t s z => ?_⟩
 ·rintro _ _ ⟨y,x1,q,u⟩;exact ⟨y,j _ _ x1,j _ _ q,Paired.mapP u λ_ _ z=>j _ _ z⟩
 ·rw [k] at z;injection z with z;injection z with z1 z2 z3;injection z3 with z4 z5;injection z5 with z6 z7;injection z7 with z8 z9;injection z8 with z10 z11;injection z11 with z12;rw [<- z12];exact i
theorem Mka.same (a:Mka C Cs H mk m tabs ords) (s:Same H H'):Mka C Cs H' mk m tabs ords :=
 ⟨a.ms.same s,(a.scfo (Fo.of s)).1,a.ok,a.n1,(a.scfo (Fo.of s)).2,a.nm,a.one⟩
theorem Mka.ix (a:Mka C Cs H mk m tabs ords) {nm:Str} (h:nm∈m.names):∃ (i:Nat) (hi:i < tabs.length),tabs[i].1=nm:=by
 rw [a.nm] at h;obtain ⟨d,hd,e⟩:=yao.mp h;obtain ⟨i,hi,b⟩:=ybo.mp hd;exact ⟨i,hi,by rw [b];exact e⟩
end
noncomputable def keyK (d:Tab):Str:=((d.2.head?).map (·.2)).getD ""
def zd5 (K:PySem.W.Frag) (C:Addr):Sp:=λvs H Q _=>∃ (p:Addr) (tabs:List Tab) (ords:List Col) (k:Nat) (hk:k < tabs.length) (x:V),vs = [.ref p,.str tabs[k].1,x]/\SchemaAt C H p tabs ords/\zaY tabs/\Thing K H x /\
 ∀ (H':Hp),Same H H'->Q (.bl (isVal (keyK tabs[k]) x)) H'
def zc6 (C:Addr):Sp:=λvs H Q _=>∃ (mk:Addr) (m:MR) (j:Int),vs = [.ref mk,.int j]/\Mks C H mk m/\0<=j/\j<=m.L/\Q .non H
def zcX (C Cs:Addr):Sp:=λvs H Q _=>∃ (mk:Addr) (m:MR) (tabs:List Tab) (ords:List Col) (j:Int) (nm:Str),vs = [.ref mk,.int j,.str nm]/\Mka C Cs H mk m tabs ords/\0<=j/\j<=m.L/\nm∈m.names/\∀ H',Same H H'->Q .non H'
def zda (C:Addr):Sp:=λvs H Q _=>∃ (mk:Addr) (m:MR),vs = [.ref mk]/\Mks C H mk m/\Q (.int m.L) H
def ze6 (K:PySem.W.Frag) (C Cs:Addr):Sp:=λvs H Q _=>∃ (mk:Addr) (m:MR) (tabs:List Tab) (ords:List Col) (j:Int) (i:Nat) (hi:i < tabs.length) (x:V),vs = [.ref mk,.int j,.str tabs[i].1,x]/\Mka C Cs H mk m tabs ords/\0<=j/\j<=m.L/\Thing K H x /\
 (isVal (keyK tabs[i]) x=false->∀ H',Same H H'->Q .non H')/\(isVal (keyK tabs[i]) x=true->∃ k,x=kV k/\∀ H',Same H H'->Q (adV (rowThen (m.ss tabs[i].1 k) j)) H')
def zd2 (C Cs:Addr):Sp:=λvs H Q _=>∃ (mk:Addr) (m:MR) (tabs:List Tab) (ords:List Col) (j:Int) (nm:Str),vs = [.ref mk,.int j,.str nm]/\Mka C Cs H mk m tabs ords/\0<=j/\j<=m.L/\nm∈m.names /\
 ∀ (l:Addr) (H':Hp) (ms:List Key),H l=none->Same H H'->ms.Perm ((m.ks nm).map (·.1))->zbA ms->H' l=some (.lst ((ms.filterMap λk=>rowThen (m.ss nm k) j).map V.ref))->Q (.ref l) H'
theorem zbg (T:Txt K mg):FnOk P w K mg base CX0 1 T.Makes_last_make.f T.Makes_last_make.fd ["self"] (zda T.C_Makes):=by
 refine T.Makes_last_make.fn.ok zdp (λvs H Q E h => ?_) (λa A outer s H vs Q E b h => ?_)
 ·obtain ⟨p,m,rfl,_⟩:=h;rfl
 ·obtain ⟨p,m,rfl,M,q⟩:=h;refine ⟨_,((zag (zao (zaE (K:=K) rfl (pv 0) rfl)))),?_⟩;exact ea rfl (gF (v := .int m.L) M.obj T.l_Makes T.n_Makes_last (by kernel_rfl) q)
theorem zdj (T:Txt K mg):FnOk P w K mg base CX0 2 T.Makes_need_make.f T.Makes_need_make.fd ["self", "make"] (zc6 T.C_Makes):=by
 refine T.Makes_need_make.fn.ok zdl (λvs H Q E h => ?_) (λd A outer s H vs Q E c h => ?_)
 ·obtain ⟨p,m,j,rfl,_⟩:=h;rfl
 ·obtain ⟨p,m,j,rfl,M,i,e,q⟩:=h;have b:=hu_of c;obtain ⟨kv,a,_,g⟩:=M.told;have get:DGet H m.st (.int j) (some (.bl true)):=g j i e ▸ DGet.k (k:=ycy j) a;refine ⟨_,((zag (ps_if (PW.pt (pw_or (zbb (za8 (zaq (zeq T) (c.mono (by decide)) rfl (zaa (pv 1) zae)))) (zcB (zdg (zgB b (pv 1) (zaE (K:=K) rfl (pv 0) rfl)))))) (zag zbp) zau))),?_⟩;refine ea rfl ⟨.int j,rfl,Thing.int j,ea rfl (iteF ?_)⟩;exact ea rfl (ea rfl (gF (v := .ref m.st) M.obj T.l_Makes T.n_Makes_still_told (by kernel_rfl) ⟨m.st,_,rfl,get,ea rfl (iteF q)⟩))
theorem zbL (T:Txt K mg):FnOk P w K mg base CX0 4 T.Makes_need_table.f T.Makes_need_table.fd ["self", "make", "table"] (zcX T.C_Makes T.C_Schema):=by
 refine T.Makes_need_table.fn.ok zc0 (λvs H Q E h => ?_) (λc A outer s H vs Q E b h => ?_)
 ·obtain ⟨p,m,tabs,a,j,nm,rfl,_⟩:=h;rfl
 ·obtain ⟨p,m,tabs,a,j,nm,rfl,M,n,d,e,q⟩:=h;obtain ⟨i,hi,rfl⟩:=M.ix e;obtain ⟨dx,y,z,dd,o⟩:=M.sc.obj;refine ⟨_,((zad (zaI (zaP T.l_Makes (zdj T) (b.mono (by decide)) (pv 0) (zaa (pv 1) zae)))
   (zag (zaI (zaP T.l_Schema (zaC T) (b.mono (by decide)) (zaE (K:=K) rfl (pv 0) rfl) (zaa (pv 2) zae)))))),?_⟩
  refine sq1 λt p1 => ?_;refine ea rfl ⟨p,_,_,rfl,M.ms.obj,by kernel_rfl,ea rfl ⟨p,m,j,rfl,M.ms,n,d,p1 ?_⟩⟩;refine ea rfl (gF (v := .ref m.sc) M.ms.obj T.l_Makes T.n_Makes_schema (by kernel_rfl) ⟨m.sc,dx,_,rfl,o,zdv ..,ea rfl ⟨m.sc,tabs,a,i,hi,rfl,M.sc,M.ok,λl u k r g _ _=>q k g⟩⟩)
theorem zd3 (T:Txt K mg):FnOk P w K mg base CX0 4 T.Schema_is_key.f T.Schema_is_key.fd ["self", "table", "thing"] (zd5 K T.C_Schema):=by
 refine T.Schema_is_key.fn.ok zd1 (λvs H Q E h => ?_) (λo A outer s H vs Q E m h => ?_)
 ·obtain ⟨p,tabs,a,k,e,x,rfl,_⟩:=h;rfl
 ·obtain ⟨p,tabs,a,k,e,x,rfl,i,c,y,q⟩:=h;obtain ⟨dx,I,J,dd,C⟩:=i.obj;have b:=c.2.2.1 _ (yam e);refine ⟨_,((zag (zao (zaq (zhl T) (m.mono (by decide)) rfl (zaa (pe_ix (zak (K:=K) rfl) (pe_ix (zam (K:=K) rfl) (zaP T.l_Schema (zaC T) (m.mono (by decide)) (pv 0) (zaa (pv 1) zae)) zac (λ_ _=>rfl)) zac (λ_ _=>rfl)) (zaa (pv 2) zae)))))),?_⟩;refine ea rfl ⟨p,dx,_,rfl,C,zdv ..,ea rfl ⟨p,tabs,a,k,e,rfl,i,c,λl d G D j n hc => ?_⟩⟩;have l1:0 < tabs[k].2.length:=b.2.1;have F:d.length=tabs[k].2.length:=yaC hc;have r:=Paired.at hc 0 (by omega) l1;have z:atI (d.map V.ref) 0=some (.ref (d[0]'(by omega))):=zdJ (by decide) (by rw [yaf];show (d[0]?).map V.ref=_;rw [yaa (by omega)];rfl);refine ixLc (SqL.of n) z (ixTc (v := .str (tabs[k].2[0]).2) (SqT.of r) rfl ?_);have u:keyK tabs[k]=(tabs[k].2[0]).2:=by
   unfold keyK;rw [yew,yaa l1];rfl
  rw [u] at q;have g:=b.2.2.2.1 _ (yam l1);exact ea rfl ⟨_,x,rfl,g.2,y.same j,λt B=>q t (j.trans B)⟩
theorem zct (T:Txt K mg):FnOk P w K mg base CX0 5 T.Makes_row_at.f T.Makes_row_at.fd ["self", "make", "table", "key"] (ze6 K T.C_Makes T.C_Schema):=by
 refine T.Makes_row_at.fn.ok ze0 (λvs H Q E h => ?_) (λI A outer s H vs Q E o h => ?_)
 ·obtain ⟨p,m,tabs,a,j,i,hi,x,rfl,_⟩:=h;rfl
 ·obtain ⟨p,m,tabs,a,j,i,hi,x,rfl,M,V,J,N,O,q2⟩:=h;have d:=hu_of o;have c:tabs[i].1∈m.names:=by
   rw [M.nm];exact yao.mpr ⟨_,yam hi,rfl⟩
  refine ⟨_,((zad (zaI (zaP T.l_Makes (zbL T) (o.mono (by decide)) (pv 0) (zaa (pv 1) (zaa (pv 2) zae))))
   (zad (ps_if (zbb (za8 (zaP T.l_Schema (zd3 T) (o.mono (by decide)) (zaE (K:=K) rfl (pv 0) rfl) (zaa (pv 2) (zaa (pv 3) zae))))) (zag (zao zez)) zau)
   (zag (zao (zaq (zeW T) (o.mono (by decide)) rfl (zaa (pe_dget2 d (zaM d (zaE (K:=K) rfl (pv 0) rfl) (pv 2) (λ_ _=>rfl)) (pv 3) (za3 zae) ⟨rfl,rfl,rfl,rfl⟩) (zaa (pv 1) zae)))))))),?_⟩
  refine sq1 λR1 p1 => ?_;refine ea rfl ⟨p,_,_,rfl,M.ms.obj,by kernel_rfl,ea rfl (ea rfl ⟨p,m,tabs,a,j,_,rfl,M,V,J,c,λH1 n=>p1 ?_⟩)⟩;have M1:=M.same n;obtain ⟨dx,Y,Z,dd,W⟩:=M1.sc.obj;refine sq1 λR2 U => ?_;refine ea rfl (gF (v := .ref m.sc) M1.ms.obj T.l_Makes T.n_Makes_schema (by kernel_rfl) ⟨m.sc,dx,_,rfl,W,zei Y Z dd (by decide +kernel),ea rfl (ea rfl ⟨m.sc,tabs,a,i,hi,x,rfl,M1.sc,M.ok,N.same n,λb t=>ea rfl ?_⟩)⟩);cases C:isVal (keyK tabs[i]) x with
  | false=>exact iteT (O C b (n.trans t))
  | true =>
   refine iteF (U ?_);have M2:=M1.same t;obtain ⟨k,rfl,q⟩:=q2 C;have get:DGet b m.sr (.str tabs[i].1) (some (.ref (m.S tabs[i].1))):=zeJ c ▸ DGet.k (k:=ybs tabs[i].1) M2.ms.srd;have sd:=M2.ms.sd _ c;refine ea rfl (gF (v := .ref m.sr) M2.ms.obj T.l_Makes T.n_Makes_stretches (by kernel_rfl) (ea rfl ⟨m.sr,_,rfl,get,m.S tabs[i].1,rfl,.inl ⟨_,.inl sd⟩,ea rfl ⟨yaW _,λl0 r => ?_⟩⟩));have g:Same b (upd b l0 (.lst [])):=Same.new r;have y:upd b l0 (.lst []) l0=some (.lst []):=zab;generalize upd b l0 (.lst [])=B at g y ⊢;have D:=M2.same g;refine ⟨valV (ksD (m.ks tabs[i].1)) k,DGet.k (g _ _ sd),?_⟩;have F:=(n.trans t).trans g;cases e:valV (ksD (m.ks tabs[i].1)) k with
   | none =>
    have R:=D.ms.s0 _ c k (zd7 e);refine ea rfl ⟨l0,[],[],j,rfl,y,.nil,?_⟩;have z:=q B F;rw [R] at z;exact z
   | some v =>
    obtain ⟨l,rfl,u⟩:=zem e;obtain ⟨ts,L,G⟩:=D.ms.ld _ c _ u;exact ea rfl ⟨l,ts,_,j,rfl,L,G,q B F⟩
theorem fm_map {f:Key->Option Addr}:∀ (a:List Key),(a.map λk=>adV (f k)).filter (λv => !decide (v=V.non))=(a.filterMap f).map V.ref
 | []=>rfl
 | k :: a=>by
  rw [yaw];cases e:f k with
  | none =>
   rw [List.filterMap_cons_none e];show List.filter _ (V.non :: _)=_;rw [ydf (by decide)];exact fm_map a
  | some r =>
   rw [List.filterMap_cons_some e,yaw];show List.filter _ (V.ref r :: _)=_;rw [ydg (by rw [decide_eq_false (λz=>nomatch z)];rfl)];exact congrArg (V.ref r :: ·) (fm_map a)
theorem zbx (T:Txt K mg):FnOk P w K mg base CX0 5 T.Makes_rows_at.f T.Makes_rows_at.fd ["self", "make", "table"] (zd2 T.C_Makes T.C_Schema):=by
 refine T.Makes_rows_at.fn.ok sc_Makes_rows_at (λvs H Q E h => ?_) (λar A outer s H vs Q E hr h => ?_)
 ·obtain ⟨p,m,tabs,r,j,nm,rfl,_⟩:=h;rfl
 ·obtain ⟨p,m,tabs,r,j,nm,rfl,M,j0,j1,o,q⟩:=h;have O:=hu_of hr;refine ⟨_,((zad (zaI (zaP T.l_Makes (zbL T) (hr.mono (by decide)) (pv 0) (zaa (pv 1) (zaa (pv 2) zae))))
   (zad (zas (i:=3) sc_Makes_rows_at.nd rfl (Or.inr rfl) (zaM O (zaE (K:=K) rfl (pv 0) rfl) (pv 2) (λ_ _=>rfl)))
   (zad (zew (i:=4) sc_Makes_rows_at.nd rfl (yaL rfl) (N := ["key", "stretches", "make"]) (own:=1) (caps := [3,1]) rfl (by kernel_rfl) (by kernel_rfl) (zaA (K:=K) rfl (zap (zcd rfl) (by rfl) T.b_sorted zcq (zaa (pv 3) zae))) (λ_ _ _ _ _=>zal (i:=0) (show List.Nodup (["key", "stretches", "make"]:List Str) by decide +kernel) rfl (yaL rfl)) (λ_ _ _ _ _=>zaW) (λ_ _ _ _ _=>(zaq (zeW T) (hr.mono (by decide)) rfl (zaa (zaM O (pv 1) (pv 0) (λ_ _=>rfl)) (zaa (pv 2) zae)))))
   (zag (zao (za7 (N := ["row"]) (own:=1) (caps := []) rfl (by kernel_rfl) (by kernel_rfl) (zaA (K:=K) rfl (pv 4)) (λ_ _ _ _ _=>zal (i:=0) (show List.Nodup (["row"]:List Str) by decide +kernel) rfl (yaL rfl)) (λ_ _ _ _ _=>(pts_one (zdg (zht (pv 0))))) (λ_ _ _ _ _=>(pv 0))))))))),?_⟩
  refine sq1 λR1 p1 => ?_;refine ea rfl ⟨p,_,_,rfl,M.ms.obj,by kernel_rfl,ea rfl (ea rfl ⟨p,m,tabs,r,j,nm,rfl,M,j0,j1,o,λI s1=>p1 ?_⟩)⟩;have M1:=M.same s1;have get:DGet I m.sr (.str nm) (some (.ref (m.S nm))):=zeJ o ▸ DGet.k (k:=ybs nm) M1.ms.srd;have sd:=M1.ms.sd _ o;have klen:=M1.ms.klen o;refine sq1 λR2 p2 => ?_;refine ea rfl (gF (v := .ref m.sr) M1.ms.obj T.l_Makes T.n_Makes_stretches (by kernel_rfl) (ea rfl ⟨m.sr,_,rfl,get,p2 ?_⟩));have ek:(ksD (m.ks nm)).map (·.1)=(m.ks nm).map (·.1):=by
   unfold ksD;rw [yaU];rfl
  have one:oneK ((ksD (m.ks nm)).map (·.1)):=by
   rw [ek];have sub:∀ k∈(m.ks nm).map (·.1),k∈m.U nm:=λk C=>by
    obtain ⟨F,n,e⟩:=yao.mp C;rw [<- e];exact M1.ms.uk nm o F n
   exact (M.one nm o).imp (λz k C=>z k (sub k C)) λz k C=>z k (sub k C)
  refine sq1 λR3 p3 => ?_;refine ea rfl ⟨m.S nm,_,rfl,sd,one,(by rw [ksD,yab];omega),λl1 ms aa Z so => ?_⟩;rw [ek] at Z;have s2:Same I (upd I l1 (.lst (ms.map kV))):=Same.new aa;have R:upd I l1 (.lst (ms.map kV)) l1=some (.lst (ms.map kV)):=zab;refine ⟨l1,rfl,⟨_,SqL.of R⟩,λDl t => ?_⟩;have M2:=M1.same s2;have am:ms.length<=63:=by
   rw [Z.length_eq,yab];exact klen
  generalize upd I l1 (.lst (ms.map kV))=H2 at s2 R M2 t ⊢;refine zaH (J:=Itl K l1) ms.length (λi d D=>∃ v:Option V,d = [v,some (.ref (m.S nm)),some (.int j)]/\Same H2 D/\D Dl=some (.lst ((ms.take i).map λk=>adV (rowThen (m.ss nm k) j)))) ⟨none,rfl,Same.new t,zab⟩
   (λi d D hi ⟨_,_,B,_⟩=>⟨_,kV ms[i],SqL.of (B _ _ R),by rw [yaf,yaa hi];rfl⟩)
   (by rintro d D ⟨_,_,B,_⟩;exact ⟨_,SqL.of (B _ _ R),by rw [yab];exact yaj _⟩) ?_ ?_
  ·rintro i d D y l hi ⟨v,rfl,b,a⟩ ⟨rfl,hy⟩;have W:=hy _ (SqL.of (b _ _ R));rw [yaf,yaa hi] at W;cases W;have M4:=M2.same b;have C:ms[i]∈(m.ks nm).map (·.1):=Z.mem_iff.mp (yam hi);obtain ⟨F,n,G⟩:=yao.mp C;obtain ⟨ts,hl,hS⟩:=M4.ms.ld nm o F n;have Y:(ms[i],F.2)∈m.ks nm:=by rw [<- G];exact n
   have L:DGet l (m.S nm) (kV ms[i]) (some (.ref F.2)):=ksD_mem (M.ms.kn nm o) Y ▸ DGet.k (M4.ms.sd nm o);rw [G] at hS;refine ea rfl (ea rfl ⟨m.S nm,_,rfl,L,ea rfl ⟨F.2,ts,_,j,rfl,hl,hS,_,a,?_,_,rfl,b.upd t,?_⟩⟩)
   ·rw [yab,yaA];exact zai (by omega)
   ·rw [zab,yap hi,yak];rfl
  ·rintro d D ⟨v,rfl,b,a⟩;rw [yaG] at a;refine p3 ?_;refine ea rfl ⟨Dl,rfl,⟨_,SqL.of a⟩,λD2 u => ?_⟩;refine zaH (J:=Itl K Dl) ms.length (λi d l=>∃ v:Option V,d = [v]/\Same D l/\l D2=some (.lst (((ms.take i).map λk=>adV (rowThen (m.ss nm k) j)).filter λv => !decide (v=V.non)))) ⟨none,rfl,Same.new u,zab⟩
    (λi d l hi ⟨_,_,B,_⟩=>⟨_,adV (rowThen (m.ss nm ms[i]) j),SqL.of (B _ _ a),by rw [yaf,yaa hi];rfl⟩)
    (by rintro d l ⟨_,_,B,_⟩;exact ⟨_,SqL.of (B _ _ a),by rw [yab];exact yaj _⟩) ?_ ?_
   ·rintro i d l y H6 hi ⟨v,rfl,g,c⟩ ⟨rfl,hy⟩;have W:=hy _ (SqL.of (g _ _ a));rw [yaf,yaa hi] at W;cases W;refine ea rfl (ea rfl (ite2 (λz => ?_) (λz => ?_)))
    ·refine ea rfl ⟨_,c,?_,_,rfl,g.upd u,?_⟩
     ·refine ycN (List.length_filter_le _ _) ?_;rw [yab,yaA];exact zai (by omega)
     ·rw [zab,yap hi,yak,List.filter_append,yaw,ydv,ydg (p:=λv:V => !decide (v=V.non)) z];rfl
    ·refine ⟨_,rfl,g,?_⟩;rw [yap hi,yak,List.filter_append,yaw,ydv,ydf (p:=λv:V => !decide (v=V.non)) z,List.filter_nil,ych];exact c
   ·rintro d l ⟨v,rfl,g,c⟩;rw [yaG,fm_map] at c;have sB:Same H H2:=s1.trans s2;have sA:=sB.trans (b.trans g);exact q D2 l ms ((sB.trans b).free u) sA Z so c
noncomputable def kindsOf (cs:List Col):List Bool:=cs.map λc=>decide (c.2=("number" : Str))
def RowsAt (H:Hp) (cs:List Col) (rs:List (Addr×List Key)):Prop:=∀ r∈rs,H r.1=some (.tup (r.2.map kV))/\zay (kindsOf cs) r.2=true
theorem zbk:∀ {bs:List Bool} {ks:List Key},zay bs ks=true->ks.length=bs.length
 | [],[],_=>rfl
 | [],_ :: _,h=>nomatch h
 | true :: _,[],h=>nomatch h
 | false :: _,[],h=>nomatch h
 | true :: bs,.inl _ :: ks,h=>congrArg yds (zbk (bs:=bs) h)
 | false :: bs,.inr _ :: ks,h=>congrArg yds (zbk (bs:=bs) h)
 | true :: _,.inr _ :: _,h=>nomatch h
 | false :: _,.inl _ :: _,h=>nomatch h
theorem zcJ:∀ {bs:List Bool} {ks:List Key} {j:Nat} {b:Bool} {k:Key},zay bs ks=true->bs[j]? = some b->ks[j]? = some k->zay [b] [k]=true
 | true :: bs,.inl _ :: ks,0,_,_,_,e1,e2=>by cases e1;cases e2;rfl
 | false :: bs,.inr _ :: ks,0,_,_,_,e1,e2=>by cases e1;cases e2;rfl
 | true :: bs,.inl _ :: ks,j+1,_,_,h,e1,e2=>zcJ (bs:=bs) (ks:=ks) (j:=j) h e1 e2
 | false :: bs,.inr _ :: ks,j+1,_,_,h,e1,e2=>zcJ (bs:=bs) (ks:=ks) (j:=j) h e1 e2
 | true :: _,.inr _ :: _,_,_,_,h,_,_=>nomatch h
 | false :: _,.inl _ :: _,_,_,_,h,_,_=>nomatch h
 | true :: _,[],_,_,_,h,_,_=>nomatch h
 | false :: _,[],_,_,_,h,_,_=>nomatch h
 | [],_,_,_,_,_,e1,_=>by simp at e1
theorem ze7 {a b:Bool} {x y:Key} (h1:zay [a] [x]=true) (h2:zay [b] [y]=true):zay [a,b] [x,y]=true:=by
 cases a <;> cases b <;> cases x <;> cases y <;> simp_all [zay]
def pick2 (j:Nat) (ks:List Key):List Key := [ks.getD j (.inl 0),ks.getD 0 (.inl 0)]
def Ordered (j:Nat) (rs out:List (Addr×List Key)):Prop:=(out.map (·.2)).Perm (rs.map λr=>pick2 j r.2)/\(out.map (·.2)).Pairwise λx y=>zaG y x=false
def zfY (H:Hp) (out:List (Addr×List Key)):Prop:=∀ r∈out,H r.1=some (.tup (r.2.map kV))
def zdZ (K:PySem.W.Frag) (C:Addr):Sp:=λvs H Q _=>∃ (p rl:Addr) (tabs:List Tab) (ords:List Col) (i:Nat) (hi:i < tabs.length) (j:Nat) (hj:j < tabs[i].2.length) (rs:List (Addr×List Key)),vs = [.ref p,.str tabs[i].1,.str tabs[i].2[j].1,.ref rl]/\SchemaAt C H p tabs ords/\zaY tabs /\
 hasO tabs[i] ords (.str tabs[i].2[j].1)=true/\H rl=some (.lst (rs.map λr => .ref r.1))/\RowsAt H tabs[i].2 rs/\rs.length < 64 /\
 ∀ (l:Addr) (H':Hp) (out:List (Addr×List Key)),H l=none->Same H H'->H' l=some (.lst (out.map λr => .ref r.1))->zfY H' out->Ordered j rs out->Q (.ref l) H'
theorem zdR {x:Str} (h:isNm x=true):x.length<=1000:=by
 unfold isNm at h;simp only [ya9,decide_eq_true_eq] at h;omega
theorem zie {xs:List Key} {j:Nat} (h:j < xs.length):atI (xs.map kV) (j:Int)=some (kV (xs.getD j (.inl 0))):=by
 refine zdE ?_;rw [yaf,yaa h,yaT,yaa h];rfl
structure PkOk (H H':Hp) (D:Addr) (j:Nat) (rs:List (Addr×List Key)) (i:Nat) (out:List (Addr×List Key)):Prop where
 same:Same H H'
 at_:H' D=some (.lst (out.map λr => .ref r.1))
 pairs:zfY H' out
 are:out.map (·.2)=(rs.take i).map λr=>pick2 j r.2
theorem zd4 (T:Txt K mg):FnOk P w K mg base CX0 5 T.order_of_rows.f T.order_of_rows.fd ["schema", "table", "column", "rows"] (zdZ K T.C_Schema):=by
 refine T.order_of_rows.fn.ok sc_order_of_rows (λvs H Q E h => ?_) (λaV A outer s H vs Q E C h => ?_)
 ·obtain ⟨p,rl,tabs,c,i,hi,j,hj,m,rfl,_⟩:=h;rfl
 ·obtain ⟨p,rl,tabs,c,i,hi,j,hj,m,rfl,hS,S,hO,G,aa,aN,q⟩:=h;obtain ⟨dx,tt,oo,dd,hp⟩:=hS.obj;have M:=S.2.2.1 _ (yam hi);have c4:tabs[i].2.length<=4:=M.2.2.1;refine ⟨_,((zad (zew (i:=4) sc_order_of_rows.nd rfl (yaL rfl) (N := ["name", "kind"]) (own:=2) (caps := []) rfl (by kernel_rfl) (by kernel_rfl) (zaA (K:=K) rfl (zaP T.l_Schema (zaC T) (C.mono (by decide)) (pv 0) (zaa (pv 1) zae))) (λ_ _ _ _ _=>(zbe (K:=K) (n:=2) rfl rfl (zat (zal (i:=0) (show List.Nodup (["name", "kind"]:List Str) by decide +kernel) rfl (yaL rfl)) (zat (zal (i:=1) (show List.Nodup (["name", "kind"]:List Str) by decide +kernel) rfl (yaL rfl)) zbj)))) (λ_ _ _ _ _=>zaW) (λ_ _ _ _ _=>(pv 0)))
   (zad (ps_if (zbb (za8 (zaP T.l_Schema (zcW T) (C.mono (by decide)) (pv 0) (zaa (pv 1) (zaa (pv 2) zae))))) (zag zbp) zau)
   (zad (zas (i:=5) sc_order_of_rows.nd rfl (Or.inr rfl) (zdV (K:=K) rfl ya3 PySem.F.slot_list_index PySem.F.type_list_index mt_indexL (pv 4) (zaa (pv 2) zae)))
   (zag (zao (zap (zdW (K:=K) rfl) (by rfl) T.b_sorted zcq (zaa (za7 (N := ["row", "place"]) (own:=1) (caps := [5]) rfl (by kernel_rfl) (by kernel_rfl) (zaA (K:=K) rfl (pv 3)) (λ_ _ _ _ _=>zal (i:=0) (show List.Nodup (["row", "place"]:List Str) by decide +kernel) rfl (yaL rfl)) (λ_ _ _ _ _=>zaW) (λ_ _ _ _ _=>(zaU (zaa (pe_ix (zak (K:=K) rfl) (pv 0) (pv 1) (λ_ _=>rfl)) (zaa (pe_ix (zak (K:=K) rfl) (pv 0) zac (λ_ _=>rfl)) zae))))) zae)))))))),?_⟩
  refine sq1 λR1 p1 => ?_;refine ea rfl ⟨p,dx,_,rfl,hp,zdv ..,ea rfl ⟨p,tabs,c,i,hi,rfl,hS,S,λl qs H1 hl s1 hL hc => ?_⟩⟩;have ql:qs.length=tabs[i].2.length:=yaC hc;refine ⟨l,rfl,⟨_,SqL.of hL⟩,λD hD => ?_⟩;refine zaH (J:=Itl K l) qs.length (λk g R=>∃ v v2:Option V,g = [v,v2]/\Same H1 R/\R D=some (.lst ((((tabs[i].2.take k).map (·.1))).map V.str))) ⟨none,none,rfl,Same.new hD,zab⟩
   (λk g R B ⟨_,_,_,sm,_⟩=>⟨_,.ref qs[k],SqL.of (sm _ _ hL),by rw [yaf,yaa B];rfl⟩)
   (by rintro g R ⟨_,_,_,sm,_⟩;exact ⟨_,SqL.of (sm _ _ hL),by rw [yab];exact yaj _⟩) ?_ ?_
  ·rintro k g R y H5 B ⟨v,v2,rfl,d,I⟩ ⟨rfl,hy⟩;have ey:=hy _ (SqL.of (d _ _ hL));rw [yaf,yaa B] at ey;cases ey;have ae:k < tabs[i].2.length:=by omega
   have hq:=Paired.at hc k B ae;refine ⟨qs[k],_,rfl,SqT.of (d _ _ hq),rfl,_,_,rfl,_,_,rfl,rfl,ea rfl ⟨_,I,?_,_,_,rfl,d.upd hD,?_⟩⟩
   ·rw [yab,yab,yaA];exact zai (by omega)
   ·rw [zab,yap ae,yak,yak];rfl
  ·rintro g R ⟨v,v2,rfl,d,I⟩;rw [ql,yaG] at I;refine p1 ?_;have s2:Same H R:=s1.trans d;refine sq1 λR2 p2 => ?_;have Z:tabs[i].2[j].1.length<=1000:=zdR (M.2.2.2.1 _ (yam hj)).1;refine ea rfl ⟨p,dx,_,rfl,s2 _ _ hp,zei tt oo dd (by decide +kernel),ea rfl (ea rfl ⟨p,tabs,c,i,hi,_,rfl,hS.kept s2,S,Thing.str Z,λH5 s5=>ea rfl ?_⟩)⟩;rw [hO];refine iteF (p2 ?_);refine sq1 λR3 p3 => ?_;have ab:=s5 _ _ I;refine ea rfl ⟨.inl ⟨rfl,_,SqL.of ab⟩,ea rfl ⟨D,_,_,j,rfl,rfl,ab,?_,?_,λa ha e => ?_,p3 ?_⟩⟩
   ·rw [yab];omega
   ·rw [yaf,yaa hj];rfl
   ·have af:a < tabs[i].2.length:=by omega
    rw [yaf,yaa af] at e;have nd:=M.2.2.2.2;have e':(tabs[i].2.map (·.1))[a]'(by rw [yab];exact af)=(tabs[i].2.map (·.1))[j]'(by rw [yab];exact hj):=by
     rw [ybl,ybl];exact yaz e
    have:=(yb4 nd).mp e';omega
   ·have U:Same H H5:=s2.trans s5;refine ea rfl ⟨rl,rfl,⟨_,SqL.of (U _ _ G)⟩,λD2 ac => ?_⟩;refine zaH (J:=Itl K rl) m.length (λk g Y=>∃ (v:Option V) (out:List (Addr×List Key)),g = [v,some (.int j)]/\PkOk H5 Y D2 j m k out) ⟨none,[],rfl,Same.new ac,zab,(λ_ z=>nomatch z),rfl⟩
     (λk g Y B ⟨_,_,_,o⟩=>⟨_,.ref m[k].1,SqL.of (o.same _ _ (U _ _ G)),by rw [yaf,yaa B];rfl⟩)
     (by rintro g Y ⟨_,_,_,o⟩;exact ⟨_,SqL.of (o.same _ _ (U _ _ G)),by rw [yab];exact yaj _⟩) ?_ ?_
    ·rintro k g Y y H7 B ⟨v,out,rfl,o⟩ ⟨rfl,hy⟩;have ey:=hy _ (SqL.of (o.same _ _ (U _ _ G)));rw [yaf,yaa B] at ey;cases ey;obtain ⟨L,aq⟩:=aa _ (yam B);have L:=o.same _ _ (U _ _ L);have W:m[k].2.length=tabs[i].2.length:=by rw [zbk aq,kindsOf,yab]
     refine ea rfl (ea rfl (ixT (SqT.of L) (zie (by omega)) (ea rfl (ixTc (SqT.of L) (zie (j:=0) (by omega)) ⟨zah (show 2<=100000 by decide),λt ht => ?_⟩))));have s8:Same H7 (upd H7 t (.tup ((pick2 j m[k].2).map kV))):=Same.new ht;have t8:upd H7 t (.tup ((pick2 j m[k].2).map kV)) t=some (.tup ((pick2 j m[k].2).map kV)):=zab;have d8:=s8 _ _ o.at_;refine ⟨_,d8,?_,_,out ++ [(t,pick2 j m[k].2)],rfl,λb u e => ?_,?_,λr C => ?_,?_⟩
     ·have:=congrArg ycb o.are;rw [yab,yab,yaA] at this;rw [yab];exact zai (by omega)
     ·rw [zaf (zar e ac)];exact s8 _ _ (o.same _ _ e)
     ·rw [zab,yak];rfl
     ·rw [zaf ?_]
      ·rcases yau.mp C with z | z
       ·exact s8 _ _ (o.pairs r z)
       ·rw [yai.mp z];exact t8
      ·rcases yau.mp C with z | z
       ·exact ne_of (s8 _ _ (o.pairs r z)) d8 (λz=>nomatch z)
       ·rw [yai.mp z];exact ne_of t8 d8 (λz=>nomatch z)
     ·rw [yak,o.are,yap B,yak];rfl
    ·rintro g Y ⟨v,out,rfl,o⟩;have are:=o.are;rw [yaG] at are;have aL:out.length=m.length:=by
      have:=congrArg ycb are
      rwa [yab,yab] at this
     have l0:0 < tabs[i].2.length:=M.2.1;refine ⟨D2,out,decide (tabs[i].2[j].2=("number" : Str)),[decide (tabs[i].2[0].2=("number" : Str))],rfl,SqL.of o.at_,λr C=>⟨SqT.of (o.pairs r C),?_⟩,by omega,λl2 ah O pm so => ?_⟩
     ·have:r.2∈m.map λr=>pick2 j r.2:=by
       rw [<- are];exact yao.mpr ⟨r,C,rfl⟩
      obtain ⟨r',an,e⟩:=yao.mp this;rw [<- e];have k':=(aa r' an).2;have W:r'.2.length=tabs[i].2.length:=by rw [zbk k',kindsOf,yab]
      have gt:∀ a (ha:a < tabs[i].2.length),zay [decide (tabs[i].2[a].2=("number" : Str))] [r'.2.getD a (.inl 0)]=true:=λa ha=>by
       refine zcJ (j:=a) k' ?_ ?_
       ·rw [kindsOf,yaf,yaa ha];rfl
       ·rw [yaT,yaa (by omega)];rfl
      exact ze7 (gt j hj) (gt 0 l0)
     ·have s9:=U.trans o.same;refine q l2 _ ah (s9.free O) (s9.upd (s9.free O)) zab (λr C => ?_) ⟨?_,?_⟩
      ·exact Same.new O _ _ (o.pairs r (pm.mem_iff.mp C))
      ·rw [<- are];exact pm.map _
      ·rw [ydL];exact so
def zdC (K:PySem.W.Frag) (C Cs:Addr):Sp:=λvs H Q _=>∃ (mk:Addr) (m:MR) (tabs:List Tab) (ords:List Col) (j:Int) (i:Nat) (hi:i < tabs.length) (c:Nat) (hc:c < tabs[i].2.length) (rc:Addr->List Key),vs = [.ref mk,.int j,.str tabs[i].1,.str tabs[i].2[c].1]/\Mka C Cs H mk m tabs ords/\0<=j/\j<=m.L /\
 hasO tabs[i] ords (.str tabs[i].2[c].1)=true/\(∀ k r,rowThen (m.ss tabs[i].1 k) j=some r->H r=some (.tup ((rc r).map kV))/\zay (kindsOf tabs[i].2) (rc r)=true) /\
 ∀ (l:Addr) (H':Hp) (ms:List Key) (out:List (Addr×List Key)),H l=none->Same H H'->ms.Perm ((m.ks tabs[i].1).map (·.1))->zbA ms->H' l=some (.lst (out.map λr => .ref r.1))->zfY H' out->Ordered c ((ms.filterMap λk=>rowThen (m.ss tabs[i].1 k) j).map λr=>(r,rc r)) out->Q (.ref l) H'
abbrev Wr:=Str×Key×Option Addr
def foldW (L:Int) (ws:List Wr) (n:Str) (j:Key) (s:List zax):List zax:=ws.foldl (λs w=>if n=w.1/\j=w.2.1 then wrS L s w.2.2 else s) s
structure Wts (H:Hp) (m m':MR) (L:Int) (ws:List Wr):Prop where
 names:m'.names=m.names
 eL:m'.L=L
 sc:m'.sc=m.sc
 U:m'.U=m.U
 cnt:m'.cnt=m.cnt+ws.length
 ss:∀ n j,m'.ss n j=foldW L ws n j (m.ss n j)
 own:∀ b,m'.own b≠none->m.own b≠none\/H b=none
 up:∀ b,m.own b≠none->m'.own b≠none
 keys:∀ n j,j∈(m'.ks n).map (·.1)↔j∈(m.ks n).map (·.1)\/∃ w∈ws,w.1=n/\w.2.1=j
theorem Wts.snoc {H f:Hp} {m d g:MR} {L:Int} {ws:List Wr} {nm:Str} {k:Key} {c:Option Addr} {C l:Addr} (a:Wts H m d L ws) (M1:Mks C f l d) (i:Fo m.own H f) (b:Wrt f d g nm k c):Wts H m g L (ws ++ [(nm,k,c)]) where
 names:=b.names.trans a.names
 eL:=b.L.trans a.eL
 sc:=b.sc.trans a.sc
 U:=b.U.trans a.U
 cnt:=by rw [b.cnt,a.cnt,yaK];rfl
 ss:=λn j=>by
  rw [b.ss,foldW,yfJ,a.eL];show _=(if n=nm/\j=k then wrS L (foldW L ws n j (m.ss n j)) c else foldW L ws n j (m.ss n j));rw [<- a.ss n j];by_cases e:n=nm/\j=k
  ·obtain ⟨rfl,rfl⟩:=e;rw [if_pos ⟨rfl,rfl⟩]
  ·simp only [if_neg e]
 own:=λx h=>by
  rcases b.own x h with z | z
  ·exact a.own x z
  ·right;cases e:H x with
   | none=>rfl
   | some o =>
    cases e2:m.own x with
    | none=>rw [i x o e2 e] at z;cases z
    | some r =>
     have up:=a.up x (by rw [e2];exact λz=>nomatch z);rw [M1.free z] at up;exact absurd rfl up
 up:=λx h=>b.up x (a.up x h)
 keys:=λn j=>by
  rw [b.keys,a.keys];constructor
  ·rintro ((z | ⟨w,hw,e⟩) | ⟨rfl,rfl⟩)
   ·exact .inl z
   ·exact .inr ⟨w,ybe _ hw,e⟩
   ·exact .inr ⟨_,yaN _ (yai.mpr rfl),rfl,rfl⟩
  ·rintro (z | ⟨w,hw,e1,e2⟩)
   ·exact .inl (.inl z)
   ·rcases yau.mp hw with y | y
    ·exact .inl (.inr ⟨w,y,e1,e2⟩)
    ·rw [yai.mp y] at e1 e2;exact .inr ⟨e1.symm,e2.symm⟩
section
variable {C Cs mk:Addr} {H H':Hp} {m m':MR} {tabs:List Tab} {ords:List Col}
theorem Mka.wrote {nm:Str} {k:Key} {d:Option Addr} (a:Mka C Cs H mk m tabs ords) (E:Mks C H' mk m') (j:Fo m.own H H') (b:Wrt H m m' nm k d):Mka C Cs H' mk m' tabs ords:=by
 obtain ⟨t,v⟩:=a.scfo j;have l:∀ x,m.own x=none->H x≠none->m'.own x=none:=λx e1 e2=>by
  cases e:m'.own x with
  | none=>rfl
  | some r =>
   rcases b.own x (by rw [e];exact λz=>nomatch z) with y | y
   ·exact absurd e1 y
   ·exact absurd y e2
 obtain ⟨dx,J,L,dd,B⟩:=a.sc.obj;refine ⟨E,by rw [b.sc];exact t,a.ok,?_,λA G u f h => ?_,b.names.trans a.nm,λn p => ?_⟩
 ·rw [b.sc];exact l _ a.n1 (by rw [B];exact λz=>nomatch z)
 ·rw [b.sc] at h;have od:=v _ _ _ _ h;obtain ⟨s,F,D,i,o,ts,cas,I,e,_,_,_,_,g⟩:=a.sc;have q:=j _ _ a.n1 e;rw [q] at h;have c:i=f:=by
   injection h with h;injection h with h1 h2 h3;injection h3 with h4 h5;injection h5 with h6 h7;injection h7 with h8 h9;injection h8 with h10 h11;injection h11
  subst c;exact l _ od (by rw [g];exact λz=>nomatch z)
 ·rw [b.U];rw [b.names] at p;exact a.one n p
end
theorem zdI (T:Txt K mg):FnOk P w K mg base CX0 6 T.Makes_order_at.f T.Makes_order_at.fd ["self", "make", "table", "column"] (zdC K T.C_Makes T.C_Schema):=by
 refine T.Makes_order_at.fn.ok zdA (λvs H Q E h => ?_) (λC A outer s H vs Q E g h => ?_)
 ·obtain ⟨p,m,tabs,b,j,i,hi,c,hc,u,rfl,_⟩:=h;rfl
 ·obtain ⟨p,m,tabs,b,j,i,hi,c,hc,u,rfl,M,J,D,N,n,q⟩:=h;have t:tabs[i].1∈m.names:=by
   rw [M.nm];exact yao.mpr ⟨_,yam hi,rfl⟩
  refine ⟨_,((zag (zao (zaq (zd4 T) (g.mono (by decide)) rfl (zaa (zaE (K:=K) rfl (pv 0) rfl) (zaa (pv 2) (zaa (pv 3) (zaa (zaP T.l_Makes (zbx T) (g.mono (by decide)) (pv 0) (zaa (pv 1) (zaa (pv 2) zae))) zae)))))))),?_⟩;refine ea rfl (gF (v := .ref m.sc) M.ms.obj T.l_Makes T.n_Makes_schema (by kernel_rfl) (ea rfl (ea rfl (ea rfl ⟨p,_,_,rfl,M.ms.obj,by kernel_rfl,ea rfl (ea rfl ⟨p,m,tabs,b,j,_,rfl,M,J,D,t,λl S ms R d y B e1 => ?_⟩)⟩))));have z:ms.length<=63:=by
   rw [y.length_eq,yab];exact M.ms.klen t
  refine ⟨m.sc,l,tabs,b,i,hi,c,hc,(ms.filterMap λk=>rowThen (m.ss tabs[i].1 k) j).map λr=>(r,u r),rfl,(M.same d).sc,M.ok,N,?_,λr g => ?_,?_,λl2 F out o I e2 O od => ?_⟩
  ·rw [yaU];exact e1
  ·obtain ⟨a,L,e⟩:=yao.mp g;obtain ⟨k,_,G⟩:=yco.mp L;obtain ⟨h1,h2⟩:=n k a G;rw [<- e];exact ⟨d _ _ h1,h2⟩
  ·rw [yab];have:=yee (λk=>rowThen (m.ss tabs[i].1 k) j) ms;omega
  ·exact q l2 F ms out (d.free o) (d.trans I) y B e2 O od
def MR.bump (m:MR):MR:={ m with L:=m.L+1 }
section
variable {C Cs mk:Addr} {H:Hp} {m:MR} {tabs:List Tab} {ords:List Col}
theorem Mks.bump {kv:List (Key×V)} (w:Mks C H mk m) (h:m.L < 1000) (s:H m.st=some (.dK kv)) (y:(kv.length:Int)<=m.L+1) (k:∀ j,0<=j->j<=m.L->valV kv (.inl j)=some (.bl true)) :
  Mks C (upd (upd H mk (.ins C m.dx (mkF m.sc (m.L+1) m.st m.sr m.lw))) m.st (.dK (putK kv (.inl (m.L+1)) (.bl true)))) mk m.bump:=by
 have i:m.st≠mk:=zb3 w.ost w.omk (λz=>nomatch z);have d:∀ {b:Addr} {o:HO} {r:Role},H b=some o->m.own b=some r->r ≠ .mk->r ≠ .st->upd (upd H mk (.ins C m.dx (mkF m.sc (m.L+1) m.st m.sr m.lw))) m.st (.dK (putK kv (.inl (m.L+1)) (.bl true))) b=some o:=λ{b o r} e h D B=>by
  rw [zaf (zb3 h w.ost B),zaf (zb3 h w.omk D)];exact e
 have v:∀ b xs,H b=some (.tup xs)->upd (upd H mk (.ins C m.dx (mkF m.sc (m.L+1) m.st m.sr m.lw))) m.st (.dK (putK kv (.inl (m.L+1)) (.bl true))) b=some (.tup xs):=λb xs e=>by
  rw [zaf (ne_of e s (λz=>nomatch z)),zaf (ne_of e w.obj (λz=>nomatch z))];exact e
 constructor
 ·rw [zaf i.symm];exact zab
 ·refine ⟨_,zab,?_,λj A t => ?_⟩
  ·have:(putK kv (.inl (m.L+1)) (.bl true)).length<=kv.length+1:=by
    unfold putK;split
    ·rw [yab];exact yda _
    ·rw [yaK];exact yaj _
   show ((putK kv (.inl (m.L+1)) (.bl true)).length:Int)<=m.L+1+1;omega
  ·have t:j<=m.L+1:=t;rw [zh2];by_cases e:j=m.L+1
   ·rw [if_pos (by rw [e])]
   ·rw [if_neg (λz=>e (Sum.inl.inj z))];exact k j A (by omega)
 ·have:=w.l0;show 0<=m.L+1;omega
 ·show m.L+1<=1000;omega
 ·exact d w.srd w.osr (λz=>nomatch z) (λz=>nomatch z)
 ·exact d w.lwd w.olw (λz=>nomatch z) (λz=>nomatch z)
 ·exact w.nd
 ·exact w.ul
 ·exact λn c=>d (w.sd n c) (w.oS n c) (λz=>nomatch z) (λz=>nomatch z)
 ·exact w.kn
 ·exact w.uk
 ·intro n c;obtain ⟨l,a,b⟩:=w.wd n c;exact ⟨l,d a (w.oW n c) (λz=>nomatch z) (λz=>nomatch z),b⟩
 ·intro n c p g;obtain ⟨q,a,b⟩:=w.ld n c p g;exact ⟨q,d a (w.oL n c p g) (λz=>nomatch z) (λz=>nomatch z),b.mono v⟩
 ·exact w.sl
 ·exact w.s0
 ·exact w.omk
 ·exact w.ost
 ·exact w.osr
 ·exact w.olw
 ·exact w.oS
 ·exact w.oW
 ·exact w.oL
 ·intro b r e;by_cases u:b=m.st
  ·rw [u];exact .inr (.inl ⟨_,zab⟩)
  ·rw [zaf u];by_cases f:b=mk
   ·rw [f];exact .inl ⟨_,_,_,zab⟩
   ·rw [zaf f];exact w.live b r e
end
def WrAt (H:Hp) (tps:List Addr) (ws:List Wr):Prop:=Paired (λt w=>H t=some (.tup [.str w.1,kV w.2.1,adV w.2.2])) tps ws
def zdK (C Cs:Addr):Sp:=λvs H Q _=>∃ (mk wl:Addr) (m:MR) (tabs:List Tab) (ords:List Col) (tps:List Addr) (ws:List Wr),vs = [.ref mk,.ref wl]/\Mka C Cs H mk m tabs ords/\H wl=some (.lst (tps.map V.ref))/\m.own wl=none/\WrAt H tps ws/\(∀ w∈ws,w.1∈m.names/\w.2.1∈m.U w.1)/\m.L < 1000/\m.cnt+ws.length < 90000 /\
 ∀ (H':Hp) (m':MR),Mka C Cs H' mk m' tabs ords->Fo m.own H H'->Wts H m m' (m.L+1) ws->Q (.int (m.L+1)) H'
theorem zdH (T:Txt K mg):FnOk P w K mg base CX0 4 T.Makes_add_make.f T.Makes_add_make.fd ["self", "writes"] (zdK T.C_Makes T.C_Schema):=by
 refine T.Makes_add_make.fn.ok sc_Makes_add_make (λvs H Q E h => ?_) (λaD A outer s H vs Q E hr h => ?_)
 ·obtain ⟨g,F,m,tabs,d,c,ws,rfl,_⟩:=h;rfl
 ·obtain ⟨g,F,m,tabs,d,c,ws,rfl,M,k,Y,hW,ad,hL,ar,q⟩:=h;have aj:=hu_of hr;have af:=hW.length;have B:∀ {i:Nat} {x:V},(c.map V.ref)[i]? = some x->∃ (h1:i < c.length) (h2:i < ws.length),x = .ref c[i]:=λ{i x} hi=>by
   have h1:i < c.length:=by
    have:=(yav.mp hi).1
    rwa [yab] at this
   rw [yaf,yaa h1] at hi;exact ⟨h1,by omega,(yaz hi).symm⟩
  refine ⟨_,((zad (zaV yaQ rfl (zaA (K:=K) rfl (pv 1)) (zbe (K:=K) (n:=3) rfl rfl (zat ((zal (i:=2) sc_Makes_add_make.nd rfl (yaL rfl))) (zat ((zal (i:=3) sc_Makes_add_make.nd rfl (yaL rfl))) (zat ((zal (i:=4) sc_Makes_add_make.nd rfl (yaL rfl))) zbj)))) (zag (zaI (zaP T.l_Schema (zaC T) (hr.mono (by decide)) (zaE (K:=K) rfl (pv 0) rfl) (zaa (pv 2) zae)))))
   (zad (ps_fldaug (pv 0) zac in_add)
   (zad (zbu aj (zaE (K:=K) rfl (pv 0) rfl) (zaE (K:=K) rfl (pv 0) rfl) pe_bl rfl)
   (zad (zaV yaQ rfl (zaA (K:=K) rfl (pv 1)) (zbe (K:=K) (n:=3) rfl rfl (zat ((zal (i:=2) sc_Makes_add_make.nd rfl (yaL rfl))) (zat ((zal (i:=3) sc_Makes_add_make.nd rfl (yaL rfl))) (zat ((zal (i:=4) sc_Makes_add_make.nd rfl (yaL rfl))) zbj)))) (zag (zaI (zaP T.l_Makes (zcT T) (hr.mono (by decide)) (pv 0) (zaa (pv 2) (zaa (pv 3) (zaa (pv 4) zae)))))))
   (zag (zao (zaE (K:=K) rfl (pv 0) rfl)))))))),?_⟩
  refine sq1 λR1 p1 => ?_;refine ea rfl ⟨F,rfl,⟨_,SqL.of k⟩,?_⟩;refine za0 (K:=K) (a:=F) (xs:=c.map V.ref) (λi p D=>Same H D/\∃ v2 S N:Option V,p = [some (.ref g),some (.ref F),v2,S,N]) ⟨Same.refl _,_,_,_,rfl⟩ ?_ ?_ ?_
  ·rintro i p D _ ⟨C,_⟩;exact SqL.of (C _ _ k)
  ·rintro i x p D hi ⟨C,v2,S,N,rfl⟩;obtain ⟨h1,h2,rfl⟩:=B hi;have j:=M.same C;obtain ⟨a,ha,al⟩:=j.ix (ad _ (yam h2)).1;obtain ⟨dx,tt,oo,dd,hp⟩:=j.sc.obj;refine ⟨c[i],_,rfl,SqT.of (C _ _ (Paired.at hW i h1 h2)),rfl,_,_,rfl,_,_,rfl,_,_,rfl,rfl,?_⟩;refine ea rfl (gF (v := .ref m.sc) j.ms.obj T.l_Makes T.n_Makes_schema (by kernel_rfl) ⟨m.sc,dx,_,rfl,hp,zdv ..,ea rfl ⟨m.sc,tabs,d,a,ha,by rw [al];rfl,j.sc,M.ok,λl qs H1 hl s1 _ _=>⟨C.trans s1,_,_,_,rfl⟩⟩⟩)
  ·rintro p D ⟨C,v2,S,N,rfl⟩;refine p1 ?_;have j:=M.same C;obtain ⟨kv,aa,ag,ak⟩:=j.ms.told;have ah:=j.ms.l0;refine sq1 λR2 p2 => ?_;refine ea rfl ⟨g,_,m.dx,_,.int m.L,rfl,j.ms.obj,T.l_Makes,T.n_Makes_last,by kernel_rfl,m.L,1,rfl,rfl,m.dx,_,j.ms.obj,(show (5:Nat) < 1000 by decide),p2 ?_⟩;have ac:putF ("last" : Str) (.int (m.L+1)) (mkF m.sc m.L m.st m.sr m.lw)=mkF m.sc (m.L+1) m.st m.sr m.lw:=by kernel_rfl
   rw [ac];have ai:m.st≠g:=zb3 j.ms.ost j.ms.omk (λz=>nomatch z);have Z:upd D g (.ins T.C_Makes m.dx (mkF m.sc (m.L+1) m.st m.sr m.lw)) g=some (.ins T.C_Makes m.dx (mkF m.sc (m.L+1) m.st m.sr m.lw)):=zab;have ao:upd D g (.ins T.C_Makes m.dx (mkF m.sc (m.L+1) m.st m.sr m.lw)) m.st=some (.dK kv):=(zaf ai).trans aa;refine sq1 λR3 p3 => ?_;refine ea rfl (gF (v := .ref m.st) Z T.l_Makes T.n_Makes_still_told (by kernel_rfl) (ea rfl (gF (v := .int (m.L+1)) Z T.l_Makes T.n_Makes_last (by kernel_rfl) ⟨m.st,_,rfl,.inl ⟨kv,.inl (m.L+1),ao,rfl,zai (by omega),rfl⟩,p3 ?_⟩)));have M3:=j.ms.bump hL aa ag ak;have t:Fo m.own H (upd (upd D g (.ins T.C_Makes m.dx (mkF m.sc (m.L+1) m.st m.sr m.lw))) m.st (.dK (putK kv (.inl (m.L+1)) (.bl true)))):=λb o e1 e2=>by
    rw [zaf (λz=>by rw [z,M.ms.ost] at e1;cases e1),zaf (λz=>by rw [z,M.ms.omk] at e1;cases e1)];exact C _ _ e2
   generalize upd (upd D g (.ins T.C_Makes m.dx (mkF m.sc (m.L+1) m.st m.sr m.lw))) m.st (.dK (putK kv (.inl (m.L+1)) (.bl true)))=H3 at M3 t ⊢;obtain ⟨z1,z2⟩:=M.scfo t;have A3:Mka T.C_Makes T.C_Schema H3 g m.bump tabs d:=⟨M3,z1,M.ok,M.n1,z2,M.nm,M.one⟩;refine sq1 λR4 p4 => ?_;have R:=t _ _ Y k;refine ea rfl ⟨F,rfl,⟨_,SqL.of R⟩,?_⟩;refine za0 (K:=K) (a:=F) (xs:=c.map V.ref) (λi p I=>∃ (u:MR) (v2 S N:Option V),p = [some (.ref g),some (.ref F),v2,S,N]/\Mka T.C_Makes T.C_Schema I g u tabs d/\Fo m.own H I/\Wts H m u (m.L+1) (ws.take i))
    ⟨m.bump,_,_,_,rfl,A3,t,rfl,rfl,rfl,rfl,rfl,(λ_ _=>rfl),(λ_ h => .inl h),(λ_ h=>h),λ_ _=>⟨.inl,λz=>z.elim id (by rintro ⟨_,z,_⟩;cases z)⟩⟩ ?_ ?_ ?_
   ·rintro i p I _ ⟨u,_,_,_,_,_,G,_⟩;exact SqL.of (G _ _ Y k)
   ·rintro i x p I hi ⟨u,w2,w3,w4,rfl,A,G,W⟩;obtain ⟨h1,h2,rfl⟩:=B hi;have ht:=Paired.at hW i h1 h2;have J:=ad _ (yam h2);refine ⟨c[i],_,rfl,SqT.of (G _ _ (M.ms.tup ht) ht),rfl,_,_,rfl,_,_,rfl,_,_,rfl,rfl,?_⟩;refine ea rfl ⟨g,_,_,rfl,A.ms.obj,by kernel_rfl,ea rfl (ea rfl (ea rfl ⟨g,u,_,_,_,rfl,A.ms,by rw [W.names];exact J.1,by rw [W.U];exact J.2,?_,λHc m2 Mc ab O => ?_⟩))⟩
    ·rw [W.cnt,yaA];omega
    ·refine ⟨m2,_,_,_,rfl,A.wrote Mc ab O,λb o e1 e2=>ab _ _ ?_ (G _ _ e1 e2),?_⟩
     ·cases e:u.own b with
      | none=>rfl
      | some r =>
       rcases W.own b (by rw [e];exact λz=>nomatch z) with y | y
       ·exact absurd e1 y
       ·rw [e2] at y;cases y
     ·rw [yap h2];exact W.snoc A.ms G O
   ·rintro p I ⟨u,w2,w3,w4,rfl,A,G,W⟩;rw [yab,af,yaG] at W;have z:=q I u A G W;rw [<- W.eL] at z;exact p4 (ea rfl (gF (v := .int u.L) A.ms.obj T.l_Makes T.n_Makes_last (by kernel_rfl) z))
section
variable {C Cs mk:Addr} {H H':Hp} {m:MR} {tabs:List Tab} {ords:List Col}
theorem Mks.agree (w:Mks C H mk m) (k:∀ b r,m.own b=some r->H' b=H b) (d:∀ b xs,H b=some (.tup xs)->H' b=some (.tup xs)):Mks C H' mk m where
 obj:=(k _ _ w.omk).trans w.obj
 told:=let ⟨kv,a,b⟩:=w.told;⟨kv,(k _ _ w.ost).trans a,b⟩
 l0:=w.l0
 l1:=w.l1
 srd:=(k _ _ w.osr).trans w.srd
 lwd:=(k _ _ w.olw).trans w.lwd
 nd:=w.nd
 ul:=w.ul
 sd:=λnm h=>(k _ _ (w.oS nm h)).trans (w.sd nm h)
 kn:=w.kn
 uk:=w.uk
 wd:=λnm h=>let ⟨kv,a,b⟩:=w.wd nm h;⟨kv,(k _ _ (w.oW nm h)).trans a,b⟩
 ld:=λnm h p c=>let ⟨ts,a,b⟩:=w.ld nm h p c;⟨ts,(k _ _ (w.oL nm h p c)).trans a,b.mono d⟩
 sl:=w.sl
 s0:=w.s0
 omk:=w.omk
 ost:=w.ost
 osr:=w.osr
 olw:=w.olw
 oS:=w.oS
 oW:=w.oW
 oL:=w.oL
 live:=λb r e=>by rw [k b r e];exact w.live b r e
def MR.addTab (m:MR) (nm:Str) (a b:Addr):MR:={ m with names:=m.names ++ [nm],S:=λn=>if n=nm then a else m.S n,W:=λn=>if n=nm then b else m.W n,own:=λx=>if x=a then some (.S nm) else if x=b then some (.W nm) else m.own x }
theorem zeg {names:List Str} {f:Str->Addr} {nm:Str} {a:Addr} (h:nm∉names):putK (nmD names f) (.inr nm) (.ref a)=nmD (names ++ [nm]) λn=>if n=nm then a else f n:=by
 have d:valV (nmD names f) (.inr nm)=none:=by
  cases e:valV (nmD names f) (.inr nm) with
  | none=>rfl
  | some v =>
   have:=valV_in e;unfold nmD at this;rw [yaU] at this;obtain ⟨n,b,c⟩:=yao.mp this;have c:(ybs n:Key) = .inr nm:=c;exact absurd (Sum.inr.inj c ▸ b) h
 rw [zd6 _ d];unfold nmD;rw [yak]
 congr 1
 ·apply yd8;intro n b;show _=((ybs n:Key),V.ref (if n=nm then a else f n));rw [if_neg (show ¬ n=nm from λz=>h (by rw [<- z];exact b))]
 ·show [((ybs nm:Key),V.ref a)] = [(ybs nm,V.ref (if nm=nm then a else f nm))];rw [if_pos rfl]
theorem Mks.addTab {nm:Str} {a b:Addr} (w:Mks C H mk m) (s:nm∉m.names) (N:(m.U nm).length<=63) (k0:m.ks=λ_ => []) (Y:m.ss=λ_ _ => [])
  (Q:H a=none) (O:H b=none) (t:b≠a) (ea:H' a=some (.dK [])) (v:H' b=some (.dK [])) (es:H' m.sr=some (.dK (nmD (m.names ++ [nm]) λn=>if n=nm then a else m.S n))) (J:H' m.lw=some (.dK (nmD (m.names ++ [nm]) λn=>if n=nm then b else m.W n)))
  (k:∀ x o,x≠m.sr->x≠m.lw->H x=some o->H' x=some o):Mks C H' mk (m.addTab nm a b):=by
 have M:=w.free Q;have L:=w.free O;have f:∀ {x:Addr} {r:Role},m.own x=some r->(m.addTab nm a b).own x=some r:=λ{x r} e=>by
  show (if x=a then _ else if x=b then _ else _)=_;rw [if_neg (λz=>by rw [z,M] at e;cases e),if_neg (λz=>by rw [z,L] at e;cases e)];exact e
 have i:∀ {x:Addr} {o:HO} {r:Role},H x=some o->m.own x=some r->r ≠ .sr->r ≠ .lw->H' x=some o:=λ{x o r} e h Z R=>k _ _ (zb3 h w.osr Z) (zb3 h w.olw R) e;have kt:∀ x xs,H x=some (.tup xs)->H' x=some (.tup xs):=λx xs e=>k _ _ (ne_of e w.srd (λz=>nomatch z)) (ne_of e w.lwd (λz=>nomatch z)) e;have c:∀ {n:Str},n∈(m.addTab nm a b).names->n∈m.names\/n=nm:=λ{n} h=>(yau.mp h).imp id yai.mp;have F:∀ {n:Str},n∈m.names->(m.addTab nm a b).S n=m.S n:=λ{n} h=>if_neg (show ¬ n=nm from λz=>s (by rw [<- z];exact h));have I:∀ {n:Str},n∈m.names->(m.addTab nm a b).W n=m.W n:=λ{n} h=>if_neg (show ¬ n=nm from λz=>s (by rw [<- z];exact h));have E:(m.addTab nm a b).S nm=a:=if_pos rfl;have u:(m.addTab nm a b).W nm=b:=if_pos rfl;have g:∀ n,(m.addTab nm a b).ks n = []:=λn=>by show m.ks n = [];rw [k0]
 constructor
 ·exact i w.obj w.omk (λz=>nomatch z) (λz=>nomatch z)
 ·obtain ⟨kv,x,y⟩:=w.told;exact ⟨kv,i x w.ost (λz=>nomatch z) (λz=>nomatch z),y⟩
 ·exact w.l0
 ·exact w.l1
 ·exact es
 ·exact J
 ·show (m.names ++ [nm]).Nodup;rw [ybq];refine ⟨w.nd,by simp,λx D y V e => ?_⟩;have q:y=nm:=by simpa using V
  rw [e,q] at D;exact s D
 ·intro n h;rcases c h with z | rfl
  ·exact w.ul n z
  ·exact N
 ·intro n h;rw [g];rcases c h with z | rfl
  ·rw [F z];have:=i (w.sd n z) (w.oS n z) (λz=>nomatch z) (λz=>nomatch z);rw [k0] at this;exact this
  ·rw [E];exact ea
 ·intro n h;rw [g];exact .nil
 ·intro n h p d;rw [g] at d;cases d
 ·intro n h;rcases c h with z | rfl
  ·obtain ⟨kv,x,y⟩:=w.wd n z;rw [I z];exact ⟨kv,i x (w.oW n z) (λz=>nomatch z) (λz=>nomatch z),y⟩
  ·rw [u];exact ⟨[],v,.nil,(λ_ z=>nomatch z)⟩
 ·intro n h p d;rw [g] at d;cases d
 ·exact w.sl
 ·intro n h j _;show m.ss n j = [];rw [Y]
 ·exact f w.omk
 ·exact f w.ost
 ·exact f w.osr
 ·exact f w.olw
 ·intro n h;rcases c h with z | rfl
  ·rw [F z];exact f (w.oS n z)
  ·rw [E];exact if_pos rfl
 ·intro n h;rcases c h with z | rfl
  ·rw [I z];exact f (w.oW n z)
  ·rw [u];show (if b=a then _ else if b=b then _ else _)=_;rw [if_neg t,if_pos rfl]
 ·intro n h p d;rw [g] at d;cases d
 ·intro x r e;by_cases G:x=a
  ·rw [G];exact .inr (.inl ⟨_,ea⟩)
  ·by_cases B:x=b
   ·rw [B];exact .inr (.inl ⟨_,v⟩)
   ·have A:(if x=a then some (.S nm) else if x=b then some (.W nm) else m.own x)=some r:=e;rw [if_neg G,if_neg B] at A;by_cases xs:x=m.sr
    ·rw [xs];exact .inr (.inl ⟨_,es⟩)
    ·by_cases l:x=m.lw
     ·rw [l];exact .inr (.inl ⟨_,J⟩)
     ·rcases w.live x r A with ⟨_,_,_,z⟩ | ⟨_,z⟩ | ⟨_,z⟩
      ·exact .inl ⟨_,_,_,k _ _ xs l z⟩
      ·exact .inr (.inl ⟨_,k _ _ xs l z⟩)
      ·exact .inr (.inr ⟨_,k _ _ xs l z⟩)
end
structure HdR where
 nm:Str
 l:Addr
 rows:List (Addr×Key)
def hsD (hs:List HdR):List (Key×V):=hs.map λh=>(.inr h.nm,.ref h.l)
def wsOf1 (h:HdR):List Wr:=h.rows.map λr=>(h.nm,r.2,some r.1)
def wsOf (hs:List HdR):List Wr:=hs.flatMap wsOf1
structure HdOk (H:Hp) (names:List Str) (U:Str->List Key) (h:HdR):Prop where
 at_:H h.l=some (.lst (h.rows.map λr => .ref r.1))
 nm:h.nm∈names
 rows:∀ r∈h.rows,(∃ rest,H r.1=some (.tup (kV r.2 :: rest)))/\r.2∈U h.nm
theorem bi_Makes {K:PySem.W.Frag} {mg:Str->Option yae} (T:Txt K mg):Binds K T.Makes___init__.fd ["self", "schema", "rows"] []:=by
 obtain ⟨h,od,kV,g,i,l,d,ct,e,a,j,c⟩:=T.Makes___init__.fn.ex;rw [a];intro s us f b;rw [ych] at b ⊢;obtain ⟨x,y,z,rfl⟩:=len3 b;refine yff (T:=T.Makes___init__.t) (o:=T.Makes___init__.o) (items := #[.none]) (n:=T.Makes___init__.n) (k := ?k) rfl (f _ _ T.Makes___init__.lo) T.Makes___init__.da ?h1 ?h2
 case h1=>rfl
 case h2=>rfl
theorem bi1_Makes {K:PySem.W.Frag} {mg:Str->Option yae} (T:Txt K mg):Binds K T.Makes___init__.fd ["self", "schema", "rows"] [.none]:=by
 obtain ⟨j,od,kV,h,l,i,d,ct,g,b,m,c⟩:=T.Makes___init__.fn.ex;rw [b];intro s us f e;have a:us.length=2:=by simpa using e
 match us,a with
 | [x,y],_ =>
  refine yff (T:=T.Makes___init__.t) (o:=T.Makes___init__.o) (items := #[.none]) (n:=T.Makes___init__.n) (k := ?k) rfl (f _ _ T.Makes___init__.lo) T.Makes___init__.da ?h1 ?h2
  case h1=>rfl
  case h2=>rfl
structure Mnew (H:Hp) (p sc:Addr) (U:Str->List Key) (ws:List Wr) (m:MR):Prop where
 sc:m.sc=sc
 U:m.U=U
 L:m.L=0
 cnt:m.cnt=ws.length
 ss:∀ n j,m.ss n j=foldW 0 ws n j []
 own:∀ b,m.own b≠none->b=p\/H b=none
 keys:∀ n j,j∈(m.ks n).map (·.1)↔∃ w∈ws,w.1=n/\w.2.1=j
def zdu (C Cs:Addr):Sp:=λvs H Q _=>∃ (p dx sc:Addr) (x:V) (tabs:List Tab) (ords:List Col) (U:Str->List Key) (hs:List HdR),vs = [.ref p,.ref sc,x]/\H p=some (.ins C dx [])/\SchemaAt Cs H sc tabs ords/\zaY tabs/\sc≠p/\(∀ nm∈tabs.map (·.1),(U nm).length<=63/\oneK (U nm)) /\
 ((x = .non/\hs = [])\/∃ hd,x = .ref hd/\H hd=some (.dK (hsD hs))/\(hs.map (·.nm)).Nodup)/\(∀ h∈hs,HdOk H (tabs.map (·.1)) U h)/\(wsOf hs).length < 80000 /\
 ∀ (H':Hp) (m:MR),Mka C Cs H' p m tabs ords->Ch1 p H H'->Mnew H p sc U (wsOf hs) m->Q .non H'
theorem Ch1.kept {H H':Hp} {x C dx:Addr} {fs:List (Str×V)} (a:H x=some (.ins C dx fs)) (c:Ch1 x H H'):Kept H H' :=
 ⟨λb _ e=>c _ _ (ne_of e a (λz=>nomatch z)) e,λb _ e=>c _ _ (ne_of e a (λz=>nomatch z)) e,λb _ _ e=>c _ _ (ne_of e a (λz=>nomatch z)) e,λb _ e=>c _ _ (ne_of e a (λz=>nomatch z)) e⟩
theorem SchemaAt.ch {C j x dx:Addr} {fs:List (Str×V)} {H H':Hp} {p:Addr} {tabs:List Tab} {i:List Col} (h:SchemaAt C H p tabs i) (n:H x=some (.ins j dx fs)) (l:p≠x) (c:Ch1 x H H'):SchemaAt C H' p tabs i:=by
 have k:=Ch1.kept n c;obtain ⟨dx,m,q,dd,o,ts,cas,r,a,b,e,d,f,g⟩:=h;exact ⟨dx,m,q,dd,o,ts,cas,r,c _ _ l a,k.fr _ _ _ b,e.kept k,k.tu _ _ d,f.kept k,k.dk _ _ g⟩
def Ch2 (x y:Addr) (H H':Hp):Prop:=∀ b o,b≠x->b≠y->H b=some o->H' b=some o
structure Out (Cs:Addr) (H:Hp) (sc y:Addr):Prop where
 tu:∀ b xs,H b=some (.tup xs)->b≠y
 fr:∀ b o u,H b=some (.frz o u)->b≠y
 ns:sc≠y
 dd:∀ dx tt oo dd,H sc=some (.ins Cs dx (scF tt oo dd))->dd≠y
theorem SchemaAt.ch2 {C q x y dx:Addr} {fs:List (Str×V)} {H H':Hp} {p:Addr} {tabs:List Tab} {i:List Col} (h:SchemaAt C H p tabs i) (k:H x=some (.ins q dx fs)) (l:p≠x) (o:Out C H p y) (c:Ch2 x y H H'):SchemaAt C H' p tabs i:=by
 have j:∀ b xs,H b=some (.tup xs)->H' b=some (.tup xs):=λb xs e=>c _ _ (ne_of e k (λz=>nomatch z)) (o.tu b xs e) e;obtain ⟨dx,t,u,dd,ob,ts,cas,n,a,b,e,d,f,g⟩:=h;refine ⟨dx,t,u,dd,ob,ts,cas,n,c _ _ l o.ns a,c _ _ (ne_of b k (λz=>nomatch z)) (o.fr _ _ _ b) b,⟨Paired.mapP e.1 ?_,e.2⟩,j _ _ d,Paired.mapP f λ_ _ z=>j _ _ z,c _ _ (ne_of g k (λz=>nomatch z)) (o.dd _ _ _ _ a) g⟩;rintro _ _ ⟨s,x1,m,r⟩;exact ⟨s,j _ _ x1,j _ _ m,Paired.mapP r λ_ _ z=>j _ _ z⟩
theorem zdn {C dx d e c f b dd a:Addr} (h:some (HO.ins C dx (scF e f dd))=some (HO.ins C d (scF c b a))):dd=a:=by
 injection h with h;injection h with h1 h2 h3;injection h3 with h4 h5;injection h5 with h6 h7;injection h7 with h8 h9;injection h8 with h10 h11;injection h11
theorem mka_of {C i p dx sc y:Addr} {H H':Hp} {U:Str->List Key} {ws:List Wr} {m:MR} {tabs:List Tab} {d:List Col} (q:H p=some (.ins C dx [])) (k:SchemaAt i H sc tabs d) (j:zaY tabs) (f:sc≠p) (t:∀ nm∈tabs.map (·.1),(U nm).length<=63/\oneK (U nm)) (o:Out i H sc y) (c:Ch2 p y H H')
  (M:Mks C H' p m) (n:m.names=tabs.map (·.1)) (N:Mnew H p sc U ws m):Mka C i H' p m tabs d:=by
 have l:∀ b,b≠p->H b≠none->m.own b=none:=λb h1 h2=>by
  cases e:m.own b with
  | none=>rfl
  | some r =>
   rcases N.own b (by rw [e];exact λz=>nomatch z) with z | z
   ·exact absurd z h1
   ·exact absurd z h2
 have B:=k.ch2 q f o c;obtain ⟨s,F,G,dd,ob,ts,cas,E,a,_,_,_,_,g⟩:=k;refine ⟨M,by rw [N.sc];exact B,j,?_,λA D v u h => ?_,n,λnm h => ?_⟩
 ·rw [N.sc];exact l _ f (by rw [a];exact λz=>nomatch z)
 ·rw [N.sc,c _ _ f o.ns a] at h;rw [<- zdn h];exact l _ (ne_of g q (λz=>nomatch z)) (by rw [g];exact λz=>nomatch z)
 ·rw [N.U];rw [n] at h;exact (t nm h).2
theorem Mnew.snoc {C p sc:Addr} {H d:Hp} {U:Str->List Key} {ws:List Wr} {m f:MR} {nm:Str} {k:Key} {c:Option Addr} (a:Mnew H p sc U ws m) (g:∀ b,d b=none->b=p\/H b=none) (b:Wrt d m f nm k c):Mnew H p sc U (ws ++ [(nm,k,c)]) f where
 sc:=b.sc.trans a.sc
 U:=b.U.trans a.U
 L:=b.L.trans a.L
 cnt:=by rw [b.cnt,a.cnt,yaK];rfl
 ss:=λn j=>by
  rw [b.ss,foldW,yfJ,a.L];show _=(if n=nm/\j=k then wrS 0 (foldW 0 ws n j []) c else foldW 0 ws n j []);rw [<- a.ss n j];by_cases e:n=nm/\j=k
  ·obtain ⟨rfl,rfl⟩:=e;rw [if_pos ⟨rfl,rfl⟩]
  ·simp only [if_neg e]
 own:=λx h=>(b.own x h).elim (a.own x) (g x)
 keys:=λn j=>by
  rw [b.keys,a.keys];constructor
  ·rintro (⟨w,hw,e⟩ | ⟨rfl,rfl⟩)
   ·exact ⟨w,ybe _ hw,e⟩
   ·exact ⟨_,yaN _ (yai.mpr rfl),rfl,rfl⟩
  ·rintro ⟨w,hw,e1,e2⟩;rcases yau.mp hw with y | y
   ·exact .inl ⟨w,y,e1,e2⟩
   ·rw [yai.mp y] at e1 e2;exact .inr ⟨e1.symm,e2.symm⟩
theorem hsD_val {hs:List HdR} {i:Nat} (b:(hs.map (·.nm)).Nodup) (hi:i < hs.length):valV (hsD hs) (.inr hs[i].nm)=some (.ref hs[i].l):=by
 induction hs generalizing i with
 | nil=>exact absurd hi (ydy _)
 | cons h hs c =>
  rw [yaw,ybm] at b;cases i with
  | zero=>exact zaT rfl
  | succ i =>
   have a:i < hs.length:=ydp hi;show valV ((ybs h.nm,V.ref h.l) :: hsD hs) (.inr hs[i].nm)=some (.ref hs[i].l);rw [zaS,c b.2 a];intro z;exact b.1 (yao.mpr ⟨hs[i],yam a,(Sum.inr.inj z).symm⟩)
theorem zb0 (T:Txt K mg):FnOk P w K mg base CX0 4 T.Makes___init__.f T.Makes___init__.fd ["self", "schema", "rows"] (zdu T.C_Makes T.C_Schema):=by
 refine T.Makes___init__.fn.ok sc_Makes___init__ (λvs H Q E h => ?_) (λdE A outer s H vs Q E hr h => ?_)
 ·obtain ⟨p,dx,sc,x,tabs,ab,U,hs,rfl,_⟩:=h;rfl
 ·obtain ⟨p,dx,sc,x,tabs,ab,U,hs,rfl,hp,hS,O,aA,hU,hx,hh,cL,q⟩:=h;have aM:=hu_of hr;refine ⟨_,((zad (zdX (pv 0) (pv 1) rfl)
   (zad (zdX (pv 0) zac rfl)
   (zad (zdX (pv 0) (pe_disp (pps_cons zac pe_bl pps_nil) rfl rfl (λz=>nomatch z) (by decide)) rfl)
   (zad (zdX (pv 0) zbo rfl)
   (zad (zdX (pv 0) zbo rfl)
   (zad (zaV yaQ rfl (zaA (K:=K) rfl (zcL T.l_Schema (zcv T) (hr.mono (by decide)) (pv 1))) (zal (i:=3) sc_Makes___init__.nd rfl (yaL rfl)) (zad (zbu aM (zaE (K:=K) rfl (pv 0) rfl) (pv 3) zbo rfl)
   (zag (zbu aM (zaE (K:=K) rfl (pv 0) rfl) (pv 3) zbo rfl))))
   (zad (zas (i:=4) sc_Makes___init__.nd rfl (yaL rfl) (pe_ifExp (zdg (zid (pv 2))) zbo (pv 2)))
   (zag (zeo yaQ rfl (zeK (pv 4)) (zal (i:=3) sc_Makes___init__.nd rfl (yaL rfl)) (zad (zaI (zaP T.l_Schema (zaC T) (hr.mono (by decide)) (pv 1) (zaa (pv 3) zae)))
   (zag (zaV yaQ rfl (zaA (K:=K) rfl (zaM aM (pv 4) (pv 3) (λ_ _=>rfl))) (zal (i:=5) sc_Makes___init__.nd rfl (yaL rfl)) (zag (zaI (zaP T.l_Makes (zcT T) (hr.mono (by decide)) (pv 0) (zaa (pv 3) (zaa (pe_ix (zak (K:=K) rfl) (pv 5) zac (λ_ _=>rfl)) (zaa (pv 5) zae))))))))))))))))))),?_⟩
  refine sq1 λR1 q1 => ?_;refine ea rfl (ea rfl (pF (fs' := [("schema",.ref sc)]) hp T.l_Makes T.n_Makes_schema (show (0:Nat) < 1000 by decide) rfl λH1 e1 c1=>q1 ?_));refine sq1 λR2 q2 => ?_;refine ea rfl (pF (fs' := [("schema",.ref sc),("last",.int 0)]) e1 T.l_Makes T.n_Makes_last (show (1:Nat) < 1000 by decide) (by kernel_rfl) λH2 e2 c2=>q2 ?_);refine sq1 λR3 q3 => ?_;intro st ba;refine ⟨zab,[(.inl 0,.bl true)],rfl,by decide,?_⟩;rw [upd_upd];have d2:=c1.trans c2;obtain ⟨b6,ap⟩:=d2.none e2 ba;have t3:Same H2 (upd H2 st (.dK (zdU [] [(.inl 0,.bl true)]))):=Same.new ba;have u3:upd H2 st (.dK (zdU [] [(.inl 0,.bl true)])) st=some (.dK [(.inl 0,.bl true)]):=zab;generalize upd H2 st (.dK (zdU [] [(.inl 0,.bl true)]))=H3 at t3 u3 ⊢;refine ea rfl (pF (fs' := [("schema",.ref sc),("last",.int 0),("still_told",.ref st)]) (t3 _ _ e2) T.l_Makes T.n_Makes_still_told (show (2:Nat) < 1000 by decide) (by kernel_rfl) λH4 e4 c4=>q3 ?_);have v4:=c4 _ _ ap u3;refine sq1 λR4 q4 => ?_;have d4:Ch1 p H H4:=d2.trans ((Ch1.of t3).trans c4);intro sr aD;obtain ⟨b0,aO⟩:=d4.none e4 aD;have bR:sr≠st:=(zar v4 aD).symm;have t5:Same H4 (upd H4 sr (.dK [])):=Same.new aD;have u5:upd H4 sr (.dK []) sr=some (.dK []):=zab;generalize upd H4 sr (.dK [])=H5 at t5 u5 ⊢;refine ea rfl (pF (fs' := [("schema",.ref sc),("last",.int 0),("still_told",.ref st),("stretches",.ref sr)]) (t5 _ _ e4) T.l_Makes T.n_Makes_stretches (show (3:Nat) < 1000 by decide) (by kernel_rfl) λH6 e6 c6=>q4 ?_);have u6:=c6 _ _ aO u5;have v6:=c6 _ _ ap (t5 _ _ v4);refine sq1 λR5 q5 => ?_;have d6:Ch1 p H H6:=d4.trans ((Ch1.of t5).trans c6);intro lw ao;obtain ⟨cr,bm⟩:=d6.none e6 ao;have b4:lw≠sr:=(zar u6 ao).symm;have cd:lw≠st:=(zar v6 ao).symm;have t7:Same H6 (upd H6 lw (.dK [])):=Same.new ao;have u7:upd H6 lw (.dK []) lw=some (.dK []):=zab;generalize upd H6 lw (.dK [])=H7 at t7 u7 ⊢;refine ea rfl (pF (fs':=mkF sc 0 st sr lw) (t7 _ _ e6) T.l_Makes T.n_Makes_last_written (show (4:Nat) < 1000 by decide) (by kernel_rfl) λH8 e8 c8=>q5 ?_);have d8:Ch1 p H H8:=d6.trans ((Ch1.of t7).trans c8);have w8:=c8 _ _ bm u7;have u8:=c8 _ _ aO (t7 _ _ u6);have v8:=c8 _ _ ap (t7 _ _ v6);have S8:=hS.ch hp aA d8;obtain ⟨m0,F⟩:∃ m0:MR,m0 = { sc:=sc,dx:=dx,st:=st,sr:=sr,lw:=lw,L:=0,cnt:=0,names := [],U:=U,S:=λ_=>p,W:=λ_=>p,ks:=λ_ => [],ss:=λ_ _ => [],own:=λb=>if b=p then some .mk else if b=st then some .st else if b=sr then some .sr else if b=lw then some .lw else none }:=⟨_,rfl⟩;have M0:Mks T.C_Makes H8 p m0:=by
   subst F;constructor
   ·exact e8
   ·exact ⟨_,v8,(show (1:Int)<=0+1 by decide),λj j0 j1=>by
     have:j=0:=by
      have j1:j<=0:=j1;omega
     subst this;rfl⟩
   ·exact Int.le_refl _
   ·exact (show (0:Int)<=1000 by decide)
   ·exact u8
   ·exact w8
   ·exact .nil
   ·exact λ_ z=>nomatch z
   ·exact λ_ z=>nomatch z
   ·exact λ_ z=>nomatch z
   ·exact λ_ z=>nomatch z
   ·exact λ_ z=>nomatch z
   ·exact λ_ z=>nomatch z
   ·exact λ_ _=>yaj _
   ·exact λ_ z=>nomatch z
   ·exact if_pos rfl
   ·exact (if_neg ap).trans (if_pos rfl)
   ·exact (if_neg aO).trans ((if_neg bR).trans (if_pos rfl))
   ·exact (if_neg bm).trans ((if_neg cd).trans ((if_neg b4).trans (if_pos rfl)))
   ·exact λ_ z=>nomatch z
   ·exact λ_ z=>nomatch z
   ·exact λ_ z=>nomatch z
   ·intro b r e;have e':(if b=p then some Role.mk else if b=st then some .st else if b=sr then some .sr else if b=lw then some .lw else none)=some r:=e;split at e'
    ·rename_i z;rw [z];exact .inl ⟨_,_,_,e8⟩
    ·split at e'
     ·rename_i z;rw [z];exact .inr (.inl ⟨_,v8⟩)
     ·split at e'
      ·rename_i z;rw [z];exact .inr (.inl ⟨_,u8⟩)
      ·split at e'
       ·rename_i z;rw [z];exact .inr (.inl ⟨_,w8⟩)
       ·cases e'
  have bi:∀ b,m0.own b≠none->b=p\/H b=none:=λb h=>by
   subst F;have h':(if b=p then some Role.mk else if b=st then some .st else if b=sr then some .sr else if b=lw then some .lw else none)≠none:=h;split at h'
   ·rename_i z;exact .inl z
   ·split at h'
    ·rename_i z;rw [z];exact .inr b6
    ·split at h'
     ·rename_i z;rw [z];exact .inr b0
     ·split at h'
      ·rename_i z;rw [z];exact .inr cr
      ·exact absurd rfl h'
  refine sq1 λR6 q6 => ?_;obtain ⟨du,tt,oo,dd,so,ts,cas,rs,sa,sb⟩:=id S8;refine ea rfl ⟨sc,_,_,rfl,sa,by kernel_rfl,sc,tabs,ab,rfl,S8,O,λl H9 hl t9 e9 => ?_⟩;refine ⟨l,rfl,⟨_,SqL.of e9⟩,?_⟩;have nd:(tabs.map (·.1)).Nodup:=O.2.2.2;refine za0 (K:=K) (a:=l) (xs:=(tabs.map (·.1)).map V.str) (λi G J=>∃ (m:MR) (v:Option V),G = [some (.ref p),some (.ref sc),some x,v,none,none]/\Mks T.C_Makes J p m/\Ch1 p H J/\J l=some (.lst ((tabs.map (·.1)).map V.str))/\m.names=(tabs.map (·.1)).take i/\m.ks=(λ_ => [])/\m.ss=(λ_ _ => [])/\m.sc=sc/\m.U=U/\m.L=0/\m.cnt=0/\∀ b,m.own b≠none->b=p\/H b=none)
   ⟨m0,_,rfl,M0.same t9,d8.trans (Ch1.of t9),e9,by rw [F];rfl,by rw [F],by rw [F],by rw [F],by rw [F],by rw [F],by rw [F],bi⟩ ?_ ?_ ?_
  ·rintro i G J _ ⟨m,v,rfl,_,_,a,_⟩;exact SqL.of a
  ·rintro i y G J hi ⟨m,v,rfl,M,da,al,en,ek,es,aI,eU,eL,ec,ow⟩;have B:i < (tabs.map (·.1)).length:=by
    have:=(yav.mp hi).1
    rwa [yab] at this
   rw [yaf,yaa B] at hi;cases hi;have aC:(tabs.map (·.1))[i]∉m.names:=by
    rw [en];intro z;obtain ⟨a,ha,aQ⟩:=ydT.mp z;have:=(yb4 nd).mp aQ;omega
   have nl:m.names.length < yaO:=by
    rw [en,yaA];have:=O.2.1;rw [yab] at B ⊢;exact zai (by omega)
   refine sq1 λR7 q7 => ?_;intro a ha;have tb:Same J (upd J a (.dK [])):=Same.new ha;have ub:upd J a (.dK []) a=some (.dK []):=zab;generalize upd J a (.dK [])=Hb at tb ub ⊢;refine ea rfl (gF (v := .ref m.sr) (tb _ _ M.obj) T.l_Makes T.n_Makes_stretches (by kernel_rfl) (ea rfl ⟨m.sr,_,rfl,.inl ⟨_,.inr (tabs.map (·.1))[i],tb _ _ M.srd,rfl,by rw [nmD,yab];exact nl,rfl⟩,q7 ?_⟩));rw [zeg aC];have a3:a≠m.sr:=(zar M.srd ha).symm;have cb:a≠m.lw:=(zar M.lwd ha).symm;have a5:m.sr≠m.lw:=zb3 M.osr M.olw (λz=>nomatch z);have bN:p≠m.sr:=zb3 M.omk M.osr (λz=>nomatch z);have a2:p≠m.lw:=zb3 M.omk M.olw (λz=>nomatch z);have cc:∀ y o,y≠m.sr->Hb y=some o->upd Hb m.sr (.dK (nmD (m.names ++ [(tabs.map (·.1))[i]]) λn=>if n=(tabs.map (·.1))[i] then a else m.S n)) y=some o:=λy o n e=>(zaf n).trans e;have uc:upd Hb m.sr (.dK (nmD (m.names ++ [(tabs.map (·.1))[i]]) λn=>if n=(tabs.map (·.1))[i] then a else m.S n)) m.sr=some (.dK (nmD (m.names ++ [(tabs.map (·.1))[i]]) λn=>if n=(tabs.map (·.1))[i] then a else m.S n)):=zab;generalize upd Hb m.sr (.dK (nmD (m.names ++ [(tabs.map (·.1))[i]]) λn=>if n=(tabs.map (·.1))[i] then a else m.S n))=D at cc uc ⊢;intro b hb;have td:Same D (upd D b (.dK [])):=Same.new hb;have ud:upd D b (.dK []) b=some (.dK []):=zab;have ck:b≠a:=(zar (cc _ _ a3 ub) hb).symm;have R:J b=none:=by
    cases e:J b with
    | none=>rfl
    | some o =>
     have nb:b≠m.sr:=λz=>by rw [z,uc] at hb;cases hb
     rw [cc _ _ nb (tb _ _ e)] at hb;cases hb
   have dj:b≠m.sr:=(zar M.srd R).symm;have bO:b≠m.lw:=(zar M.lwd R).symm;generalize upd D b (.dK [])=Hd at td ud ⊢;refine ea rfl (gF (v := .ref m.lw) (td _ _ (cc _ _ bN (tb _ _ M.obj))) T.l_Makes T.n_Makes_last_written (by kernel_rfl) (ea rfl ⟨m.lw,_,rfl,.inl ⟨_,.inr (tabs.map (·.1))[i],td _ _ (cc _ _ a5.symm (tb _ _ M.lwd)),rfl,by rw [nmD,yab];exact nl,rfl⟩,?_⟩));rw [zeg aC];have ce:∀ y o,y≠m.lw->Hd y=some o->upd Hd m.lw (.dK (nmD (m.names ++ [(tabs.map (·.1))[i]]) λn=>if n=(tabs.map (·.1))[i] then b else m.W n)) y=some o:=λy o n e=>(zaf n).trans e;have ue:upd Hd m.lw (.dK (nmD (m.names ++ [(tabs.map (·.1))[i]]) λn=>if n=(tabs.map (·.1))[i] then b else m.W n)) m.lw=some (.dK (nmD (m.names ++ [(tabs.map (·.1))[i]]) λn=>if n=(tabs.map (·.1))[i] then b else m.W n)):=zab;generalize upd Hd m.lw (.dK (nmD (m.names ++ [(tabs.map (·.1))[i]]) λn=>if n=(tabs.map (·.1))[i] then b else m.W n))=He at ce ue ⊢;have k:∀ y o,y≠m.sr->y≠m.lw->J y=some o->He y=some o:=λy o Z I e=>ce _ _ I (td _ _ (cc _ _ Z (tb _ _ e)));have M':=M.addTab (H':=He) aC (by rw [eU];exact (hU _ (yam B)).1) ek es ha R ck (ce _ _ cb (td _ _ (cc _ _ a3 ub))) (ce _ _ bO ud) (ce _ _ a5 (td _ _ uc)) ue k;have Y:∀ c,m.own c≠none->∀ y o,y≠p->H y=some o->y≠c:=λc h y o n e z=>by
    rcases ow c h with w | w
    ·exact n (z.trans w)
    ·rw [<- z,e] at w;cases w
   have cn:Ch1 p H He:=λy o n e=>k _ _ (Y _ (by rw [M.osr];exact λz=>nomatch z) y o n e) (Y _ (by rw [M.olw];exact λz=>nomatch z) y o n e) (da y o n e);refine ⟨_,_,rfl,M',cn,k _ _ (ne_of al M.srd (λz=>nomatch z)) (ne_of al M.lwd (λz=>nomatch z)) al,?_,ek,es,aI,eU,eL,ec,λy h => ?_⟩
   ·show m.names ++ [(tabs.map (·.1))[i]]=_;rw [en,<- yap B]
   ·have h':(if y=a then some (Role.S (tabs.map (·.1))[i]) else if y=b then some (Role.W (tabs.map (·.1))[i]) else m.own y)≠none:=h;have fresh:∀ c,J c=none->c=p\/H c=none:=λc hc=>by
     by_cases n:c=p
     ·exact .inl n
     ·right;cases e:H c with
      | none=>rfl
      | some o=>rw [da c o n e] at hc;cases hc
    split at h'
    ·rename_i z;rw [z];exact fresh a ha
    ·split at h'
     ·rename_i z;rw [z];exact fresh b R
     ·exact ow y h'
  ·rintro G J ⟨m,v,rfl,M,da,al,en,ek,es,aI,eU,eL,ec,ow⟩;rw [yab,yaG] at en;refine q6 ?_;have N0:Mnew H p sc U [] m:=⟨aI,eU,eL,ec,λn j=>by rw [es];rfl,ow,λn j=>by rw [ek];exact ⟨(λz=>nomatch z),by rintro ⟨_,z,_⟩;cases z⟩⟩;have bq:∀ {hd:Addr} {cas:List Addr} {ts:List Addr},TabsC H ts cas tabs->kvsOf tabs cas≠hsD hs:=λ{hd cas ts} hC z=>by
    obtain ⟨ca,cm,b8⟩:=hC;have l1:=O.1;cases tabs with
    | nil=>exact absurd l1 (by decide)
    | cons d tabs =>
     cases cas with
     | nil=>cases b8
     | cons c cas =>
      cases ts with
      | nil=>cases cm
      | cons t ts =>
       cases ca with
       | cons r _ =>
        obtain ⟨qs,_,r2,_⟩:=r;cases hs with
        | nil=>cases z
        | cons h hs =>
         have z1:((ybs d.1:Key),V.ref c)=(ybs h.nm,V.ref h.l):=(yeq z).1;have z2:c=h.l:=by
          have:=congrArg Prod.snd z1;injection this
         have bj:=(hh h (yax ..)).at_;rw [<- z2,show H c=_ from r2] at bj;cases bj
   refine sqC (λG Hb=>∃ (hd:Addr) (v:Option V),G = [some (.ref p),some (.ref sc),some x,v,some (.ref hd),none]/\Same J Hb/\Hb hd=some (.dK (hsD hs))/\m.own hd=none/\Out T.C_Schema H sc hd/\(hs.map (·.nm)).Nodup/\hd≠p/\(H hd=none\/H hd=some (.dK (hsD hs)))) ?_ ?_
   ·rintro G Hb ⟨hd,v,rfl,tb,g,bf,out,aE,am,bn⟩;refine ea rfl ⟨hd,_,rfl,g,λob ct => ?_⟩;have uf:upd Hb hd (.frz ob (.dK (hsD hs))) hd=some (.frz ob (.dK (hsD hs))):=zab;have cf:∀ b,b≠hd->upd Hb hd (.frz ob (.dK (hsD hs))) b=Hb b:=λb n=>zaf n;generalize upd Hb hd (.frz ob (.dK (hsD hs)))=Hf at uf cf ⊢;have ag:∀ {H1 H2:Hp} {m1:MR},Mks T.C_Makes H1 p m1->m1.own hd=none->(∀ b,b≠hd->H2 b=H1 b)->(∀ xs,H1 hd≠some (.tup xs))->Mks T.C_Makes H2 p m1:=λ{H1 H2 m1} M1 o1 k1 nt=>M1.agree (λb r e=>k1 b (λz=>by rw [z,o1] at e;cases e)) λb xs e=>(k1 b (λz=>by rw [z] at e;exact nt xs e)).trans e;have Mf:Mks T.C_Makes Hf p m:=ag (M.same tb) bf cf (λxs z=>by rw [g] at z;cases z);have cH:Ch2 p hd H Hf:=λb o Z I e=>(cf b I).trans (tb _ _ (da b o Z e));have noneOf:∀ {D:Hp},Ch2 p hd H D->D hd=some (.frz ob (.dK (hsD hs)))->∀ b,D b=none->b=p\/H b=none:=λ{D} c e b h=>by
     by_cases Z:b=p
     ·exact .inl Z
     ·right;by_cases I:b=hd
      ·rw [I,e] at h;cases h
      ·cases z:H b with
       | none=>rfl
       | some o=>rw [c b o Z I z] at h;cases h
    refine zc7 (a:=hd) (ob:=ob) (kvs:=hsD hs) (λi G D=>∃ (m':MR) (v3 v5:Option V),G = [some (.ref p),some (.ref sc),some x,v3,some (.ref hd),v5]/\Mks T.C_Makes D p m'/\m'.names=tabs.map (·.1)/\Ch2 p hd H D/\D hd=some (.frz ob (.dK (hsD hs)))/\m'.own hd=none/\Mnew H p sc U (wsOf (hs.take i)) m')
     ⟨m,_,_,rfl,Mf,en,cH,uf,bf,N0⟩ ?_ ?_ ?_
    ·rintro i G D _ ⟨_,_,_,_,_,_,_,e,_⟩;exact e
    ·rintro i pr G D hi ⟨m',v3,v5,rfl,M',ac,c',e',o',N'⟩;have B:i < hs.length:=by
      have:=(yav.mp hi).1
      rwa [hsD,yab] at this
     rw [hsD,yaf,yaa B] at hi;cases hi;have hk:=hh _ (yam B);have A:=mka_of hp hS O aA hU out c' M' ac N';obtain ⟨a,ha,aQ⟩:=A.ix (nm:=hs[i].nm) (by rw [ac];exact hk.nm);obtain ⟨bo,dn,dk,dR,bc⟩:=A.sc.obj;have bg:=A.sc;rw [N'.sc] at bc bg;refine sq1 λR8 q8 => ?_;refine ea rfl ⟨sc,bo,_,rfl,bc,zdv ..,ea rfl ⟨sc,tabs,ab,a,ha,by rw [aQ];rfl,bg,O,λl2 qs br dD ar _ _=>q8 ?_⟩⟩;have get:DGet br hd (.str hs[i].nm) (some (.ref hs[i].l)) := .inl ⟨hsD hs,.inr hs[i].nm,.inr ⟨ob,ar _ _ e'⟩,rfl,(hsD_val aE B).symm⟩;have a9:Ch2 p hd H br:=λb o Z I z=>ar _ _ (c' b o Z I z);have a2:hs[i].l≠p:=ne_of hk.at_ hp (λz=>nomatch z);have b9:hs[i].l≠hd:=λz=>by
      rcases bn with y | y
      ·rw [<- z,hk.at_] at y;cases y
      ·rw [<- z,hk.at_] at y;cases y
     have as:∀ {Hg:Hp},Ch2 p hd H Hg->Hg hs[i].l=some (.lst (hs[i].rows.map λr => .ref r.1)):=λ{Hg} c=>c _ _ a2 b9 hk.at_;have cl:(wsOf (hs.take i)++wsOf1 hs[i]).length<=(wsOf hs).length:=by
      have e:wsOf hs=(wsOf (hs.take i)++wsOf1 hs[i])++wsOf (hs.drop (i+1)):=by
       have:=congrArg wsOf (List.take_append_drop i hs).symm;rw [ydY B] at this;rw [this];unfold wsOf;rw [yfh,yfK,yc3]
      rw [e,yaK (bs:=wsOf (hs.drop (i+1)))];exact ycG _ _
     refine ea rfl (ea rfl ⟨hd,_,rfl,get,hs[i].l,rfl,⟨_,SqL.of (as a9)⟩,?_⟩);refine za0 (K:=K) (a:=hs[i].l) (xs:=hs[i].rows.map λr=>V.ref r.1) (λk G He=>∃ (m2:MR) (v5:Option V),G = [some (.ref p),some (.ref sc),some x,some (.str hs[i].nm),some (.ref hd),v5]/\Mks T.C_Makes He p m2/\m2.names=tabs.map (·.1)/\Ch2 p hd H He/\He hd=some (.frz ob (.dK (hsD hs)))/\m2.own hd=none/\Mnew H p sc U (wsOf (hs.take i)++(wsOf1 hs[i]).take k) m2)
      ⟨m',_,rfl,M'.same ar,ac,a9,ar _ _ e',o',by rw [List.take_zero,ych];exact N'⟩ ?_ ?_ ?_
     ·rintro k G He _ ⟨_,_,_,_,_,c,_⟩;exact SqL.of (as c)
     ·rintro k y G He aJ ⟨m2,w5,rfl,M2,ak,ae,ad,o2,N2⟩;have aF:k < hs[i].rows.length:=by
       have:=(yav.mp aJ).1
       rwa [yab] at this
      rw [yaf,yaa aF] at aJ;cases aJ;obtain ⟨⟨rest,aL⟩,b2⟩:=hk.rows _ (yam aF);have a8:=ae _ _ (ne_of aL hp (λz=>nomatch z)) (out.tu _ _ aL) aL;have wk:k < (wsOf1 hs[i]).length:=by rw [wsOf1,yab];exact aF
      refine ea rfl ⟨p,_,_,rfl,M2.obj,by kernel_rfl,ea rfl (ea rfl (ixTc (v:=kV hs[i].rows[k].2) (SqT.of a8) (at0 _ _) (ea rfl ⟨p,m2,hs[i].nm,hs[i].rows[k].2,some hs[i].rows[k].1,rfl,M2,by rw [ak];exact hk.nm,by rw [N2.U];exact b2,?_,λHg m3 Mg bd az => ?_⟩)))⟩
      ·rw [N2.cnt,yaK,yaA];rw [yaK] at cl;omega
      ·refine ⟨m3,_,rfl,Mg,az.names.trans ak,λb o Z I z=>bd _ _ ?_ (ae b o Z I z),bd _ _ o2 ad,?_,?_⟩
       ·cases e:m2.own b with
        | none=>rfl
        | some r =>
         rcases N2.own b (by rw [e];exact λz=>nomatch z) with y | y
         ·exact absurd y Z
         ·rw [z] at y;cases y
       ·cases e:m3.own hd with
        | none=>rfl
        | some r =>
         rcases az.own hd (by rw [e];exact λz=>nomatch z) with y | y
         ·exact absurd o2 y
         ·rw [ad] at y;cases y
       ·have z:=N2.snoc (C:=T.C_Makes) (noneOf ae ad) az;rw [yc3] at z;rw [yap wk];have ew:(wsOf1 hs[i])[k]=(hs[i].nm,hs[i].rows[k].2,some hs[i].rows[k].1):=ybl ..;rw [ew];exact z
     ·rintro G He ⟨m2,w5,rfl,M2,ak,ae,ad,o2,N2⟩;refine ⟨m2,_,_,rfl,M2,ak,ae,ad,o2,?_⟩;have el:(hs[i].rows.map λr=>V.ref r.1).length=(wsOf1 hs[i]).length:=by rw [wsOf1,yab,yab]
      rw [el,yaG] at N2;have e:wsOf (hs.take (i+1))=wsOf (hs.take i)++wsOf1 hs[i]:=by
       rw [yap B];unfold wsOf;rw [yfh];simp
      rw [e];exact N2
    ·rintro G D ⟨m',v3,v5,rfl,M',ac,c',e',o',N'⟩;have el:(hsD hs).length=hs.length:=by rw [hsD,yab]
     rw [el,yaG] at N';refine ⟨hd,ob,_,ct,e',?_⟩;have cz:∀ b,b≠hd->upd D hd (.dK (hsD hs)) b=D b:=λb n=>zaf n;have Mz:Mks T.C_Makes (upd D hd (.dK (hsD hs))) p m':=ag M' o' cz (λxs z=>by rw [e'] at z;cases z);have a1:Ch2 p hd H (upd D hd (.dK (hsD hs))):=λb o Z I z=>(cz b I).trans (c' b o Z I z);refine q _ m' (mka_of hp hS O aA hU out a1 Mz ac N') (λb o n z => ?_) N';by_cases I:b=hd
     ·rw [I] at z ⊢;rcases bn with y | y
      ·rw [y] at z;cases z
      ·rw [y] at z;cases z;exact zab
     ·exact a1 b o n I z
   ·intro N hN;rcases hx with ⟨rfl,rfl⟩ | ⟨hd,rfl,g,aE⟩
    ·refine ea rfl (ea rfl (ite2 (λ_ f0 aG => ?_) (λz=>absurd (decide_eq_true rfl) z)));obtain ⟨ff,nf⟩:=da.none M.obj aG;obtain ⟨bp,b7,cu,cj,bQ,bV,bu,co,af,_,_,_,_,aB⟩:=id hS;refine hN _ _ ⟨f0,_,rfl,Same.new aG,zab,M.free aG,⟨λb xs e=>zar e ff,λb o u e=>zar e ff,zar af ff,λbW bY bU cq e => ?_⟩,.nil,nf,.inl ff⟩;rw [af] at e;rw [<- zdn e];exact zar aB ff
    ·refine ea rfl (ea rfl (ite2 (λz=>absurd (of_decide_eq_true z) (λz=>nomatch z)) (λ_ => ?_)));have am:hd≠p:=ne_of g hp (λz=>nomatch z);have oh:m.own hd=none:=by
      cases e:m.own hd with
      | none=>rfl
      | some r =>
       rcases ow hd (by rw [e];exact λz=>nomatch z) with z | z
       ·exact absurd z am
       ·rw [g] at z;cases z
     obtain ⟨bp,b7,cu,cj,bQ,bV,bu,co,af,_,cg,_,_,aB⟩:=id hS;refine ea rfl (hN _ _ ⟨hd,_,rfl,Same.refl _,da _ _ am g,oh,⟨λb xs e=>ne_of e g (λz=>nomatch z),λb o u e=>ne_of e g (λz=>nomatch z),ne_of af g (λz=>nomatch z),λbW bY bU cq e => ?_⟩,aE,am,.inr g⟩);rw [af] at e;rw [<- zdn e];exact ne_of aB g (λz=>by injection z with z;exact bq (hd:=hd) cg z)
def Nng (ds:List Int):Prop:=∀ d∈ds,0<=d/\d < 2147483647
theorem Nng.at {ds:List Int} (h:Nng ds) {j:Nat} (a:j < ds.length):0<=ds.getD j 0/\ds.getD j 0 < 2147483647:=h _ (L2.getD_mem a)
theorem Nng.snoc {ds:List Int} {d:Int} (h:Nng ds) (b:0<=d) (h1:d < 2147483647):Nng (ds ++ [d]):=λe a=>by
 rcases yau.mp a with z | z
 ·exact h e z
 ·rw [yai.mp z];exact ⟨b,h1⟩
theorem md0 (a:Int) {b:Int} (h:0 < b):0<=a % b:=Int.emod_nonneg _ (by omega)
theorem md1 (a:Int) {b:Int} (h:0 < b):a % b < b:=Int.emod_lt_of_pos _ h
def ze2 (K:PySem.W.Frag):Sp:=λvs H Q _=>∃ (a:Addr) (ns:List Int) (k:Int),vs = [.ref a,.int k]/\SqL K H a (ns.map V.int)/\0<=k/\∀ z:Int,Q (.int z) H
def zfs:Sp:=λvs H Q _=>∃ (c m:Int),vs = [.int c,.int m]/\0<=m/\m<=1000/\∀ (D:Addr) (ds:List Int) (H':Hp),Same H H'->H D=none->H' D=some (.lst (ds.map V.int))->(ds.length:Int)=m->Nng ds->Q (.ref D) H'
theorem zcA (T:Txt K mg):FnOk P w K mg base CX0 1 T._law_cell_at.f T._law_cell_at.fd ["_law_script", "_law_k"] (ze2 K):=by
 refine T._law_cell_at.fn.ok zeG (λvs H Q E h => ?_) (λd A outer s H vs Q E e h => ?_)
 ·obtain ⟨a,ns,k,rfl,_⟩:=h;rfl
 ·obtain ⟨a,ns,k,rfl,hs,c,q⟩:=h;refine ⟨_,((zad (ps_if (zaz op_lt (pv 1) (zap (zav (K:=K) rfl) (by rfl) T.b_len za9 (zaa (pv 0) zae)) (zaD _)) (zag (zao (pe_ix (zam (K:=K) rfl) (pv 0) (pv 1) (λ_ _=>rfl)))) zau)
   (zag (zao zac)))),?_⟩
  refine sq1 λg p1 => ?_;refine ea rfl (ea rfl ⟨_,_,rfl,.inl hs,⟨_,_,rfl,rfl,ea rfl (ite2 (λz => ?_) (λz=>p1 (q _)))⟩⟩);have b:=of_decide_eq_true z;rw [yab] at b;exact ea rfl (ea rfl (ixL hs (zaO c b) (q _)))
theorem two_int {a b i:Int} (d:0<=a/\a < 2147483647) (h1:0<=b/\b < 2147483647) (c:Bool):∃ n,atI [V.int a,V.int b] (if c then 1 else 0)=some (.int n)/\0<=n/\n < 2147483647:=by
 cases c with
 | false=>exact ⟨a,rfl,d⟩
 | true=>exact ⟨b,rfl,h1⟩
theorem za4 (T:Txt K mg):FnOk P w K mg base CX0 1 T._law_stream.f T._law_stream.fd ["_law_cell", "_law_many"] zfs:=by
 refine T._law_stream.fn.ok sc__law_stream (λvs H Q E h => ?_) (λI A outer s H vs Q E hr h => ?_)
 ·obtain ⟨c,m,rfl,_⟩:=h;rfl
 ·obtain ⟨c,m,rfl,h0,hm,k⟩:=h;refine ⟨_,((zad (zas (i:=2) sc__law_stream.nd rfl (yaL rfl) (za3 zae))
   (zad (zas (i:=3) sc__law_stream.nd rfl (yaL rfl) (pe_op zbZ (pv 0) (zaQ zeZ (by rfl) T.b_int zhC (zaa (zby op_ge (pv 0) (pe_op zfO zac zac) (zaD _)) zae))))
   (zad (zas (i:=4) sc__law_stream.nd rfl (yaL rfl) (pe_op zaL (pv 0) zac))
   (zad (zaV yaQ rfl (zbd rfl T.b_range (zaa (pv 1) zae)) (zal (i:=5) sc__law_stream.nd rfl (yaL rfl)) (zad (zas (i:=4) sc__law_stream.nd rfl (yaL rfl) (pe_op zaL (pe_op zbr (pe_op zbr (pe_op zbr (pe_op zbZ (pv 4) (pv 4)) (pe_op zbZ zac (pv 4))) (pe_op zbZ zac (pv 5))) zac) zac))
   (zad (zaI (zdV (K:=K) rfl ya3 ybW ybX zbG (pv 2) (zaa (pe_ix (zam (K:=K) rfl) (za3 (zaa (pe_op zaL (pe_op zbZ (pv 4) (pe_op zbr (pv 4) zac)) zac) (zaa (pe_op zaL (pv 3) zac) zae))) (zaQ zeZ (by rfl) T.b_int zhC (zaa (zby op_gt (pv 3) zac (zaD _)) zae)) (λ_ _=>rfl)) zae)))
   (zag (zas (i:=3) sc__law_stream.nd rfl (yaL rfl) (pe_op zaR (pv 3) zac))))))
   (zag (zao (pv 2)))))))),?_⟩
  refine sq1 λR1 p1 => ?_;refine ⟨yaW _,λD t=>p1 ?_⟩;refine sq1 λR2 W => ?_;refine ea rfl (ea rfl ⟨10,18,rfl,rfl,⟨by decide,by decide,by decide⟩,c,_,rfl,rfl,.inr ⟨_,rfl,c,_,rfl,rfl,.inr ⟨?_,?_⟩,W ?_⟩⟩)
  ·split <;> decide
  ·split <;> decide
  have g:0<=c*(if decide ((10:Int) ^ (18:Int).toNat<=c)=true then 1 else 0):=by
   by_cases z:(10:Int) ^ (18:Int).toNat<=c
   ·rw [decide_eq_true z,if_pos rfl,Int.mul_one];have:(0:Int)<=10 ^ (18:Int).toNat:=by decide
    omega
   ·rw [decide_eq_false z];simp
  dsimp only;generalize c*(if decide ((10:Int) ^ (18:Int).toNat<=c)=true then 1 else 0)=L0 at g ⊢;refine sq1 λR3 p3 => ?_;refine ea rfl ⟨c,2147483647,rfl,rfl,(show (0:Int) < 2147483647 by decide),p3 ?_⟩;have e:=md0 c (show (0:Int) < 2147483647 by decide);have l:=md1 c (show (0:Int) < 2147483647 by decide);dsimp only;generalize c % 2147483647=M0 at e l ⊢;refine sq1 λR4 Z => ?_;refine ⟨_,rfl,_,rfl,by omega,by omega,zbs (lo:=0) (n:=m.toNat) (λi u j=>∃ (L M:Int) (v:Option V) (ds:List Int),u = [some (.int c),some (.int m),some (.ref D),some (.int L),some (.int M),v]/\Same H j/\j D=some (.lst (ds.map V.int))/\ds.length=i/\Nng ds/\0<=L/\0<=M/\M < 2147483647)
   ⟨L0,M0,none,[],rfl,Same.new t,zab,rfl,(λ_ z=>nomatch z),g,e,l⟩ ?_ ?_⟩
  ·rintro i u j hi ⟨L,M,v,ds,rfl,r,hd,B,d,C,R,ab⟩;refine sq1 λR5 Y => ?_;refine ea rfl (ea rfl ⟨_,_,rfl,rfl,.inl ⟨by omega,by omega⟩,ea rfl ⟨_,_,rfl,rfl,.inl ⟨by decide,by decide⟩,_,_,rfl,rfl,ea rfl ⟨_,_,rfl,rfl,.inl ⟨by decide,by decide⟩,_,_,rfl,rfl,_,_,rfl,rfl,_,_,rfl,rfl,(show (0:Int) < 2147483647 by decide),Y ?_⟩⟩⟩);have o:=md0 (M*M+48271*M+7919*(0+(i:Int))+11) (show (0:Int) < 2147483647 by decide);have q:=md1 (M*M+48271*M+7919*(0+(i:Int))+11) (show (0:Int) < 2147483647 by decide);dsimp only;generalize (M*M+48271*M+7919*(0+(i:Int))+11) % 2147483647=M1 at o q ⊢;refine sq1 λR6 S => ?_;have U:=md0 (M1*(M1+69621)) (show (0:Int) < 2147483629 by decide);have e1:=md1 (M1*(M1+69621)) (show (0:Int) < 2147483629 by decide);have f0:=md0 L (show (0:Int) < 1000003 by decide);have f1:=md1 L (show (0:Int) < 1000003 by decide);obtain ⟨n,N,G,J⟩:=two_int (i:=0) (a:=M1*(M1+69621) % 2147483629) (b:=L % 1000003) ⟨U,by omega⟩ ⟨f0,by omega⟩ (decide (0 < L));refine ea rfl ⟨.inl ⟨rfl,_,SqL.of hd⟩,ea rfl (ea rfl ⟨_,_,rfl,rfl,_,_,rfl,rfl,.inl ⟨by omega,by omega⟩,_,_,rfl,rfl,(show (0:Int) < 2147483629 by decide),ea rfl ⟨_,_,rfl,rfl,(show (0:Int) < 1000003 by decide),zah (show 2<=100000 by decide),λp y => ?_⟩⟩)⟩;have O:D≠p:=λz=>by rw [<- z,hd] at y;cases y
   refine ea rfl ⟨_,_,rfl,rfl,.inr ⟨_,rfl,ixL (SqL.of zab) N ⟨D,ds.map V.int,ea rfl ⟨rfl,(zaf O).trans hd,by rw [yab];exact zai (by omega),S ?_⟩⟩⟩⟩;refine ea rfl ⟨_,_,rfl,rfl,⟨(show (0:Int) < 1000003 by decide),(show (1000003:Int) < 2 ^ 64 by decide)⟩,?_⟩;exact ⟨L / 1000003,M1,_,ds ++ [n],rfl,(r.upd (r.free y)).upd t,by rw [zab,yak];rfl,by simp [B],d.snoc G J,Int.ediv_nonneg C (by decide),o,q⟩
  ·rintro u j ⟨L,M,v,ds,rfl,r,hd,B,d,_⟩;refine Z ?_;exact ea rfl (k D ds j r t hd (by omega) d)
abbrev abc:Str := "abcdefghijklmnopqrstuvwxyz"
theorem zg1:abc.cps.toList.length=26:=by decide +kernel
theorem abc_low:abc.cps.toList.all isLow=true:=by decide +kernel
theorem abc_at:∀ k < 26,abc.cps.toList.getD k 0=97+k:=by decide +kernel
def sign (g:Int):Nat:=abc.cps.toList.getD g.toNat 0
theorem zh6 {g:Int} (a:0<=g) (h1:g < 26):isLow (sign g)=true :=
 yaX.mp abc_low _ (L2.getD_mem (by rw [zg1];omega))
theorem sign_inj {a b:Int} (a0:0<=a) (a1:a < 26) (d:0<=b) (c:b < 26) (e:sign a=sign b):a=b:=by
 unfold sign at e;rw [abc_at _ (by omega),abc_at _ (by omega)] at e;omega
theorem zh1 {α:Type} (f:α->Str) (h:∀ a,(f a).length=1):∀ l:List α,((l.map f).map (·.length)).sum=l.length
 | []=>rfl
 | a :: l=>by
  rw [yaw,yaw,List.sum_cons,zh1 f h l,h a,ya4];omega
theorem ziT (a:List Int):Txt.join "" (a.map λg=>(⟨#[sign g]⟩:Str)) = ⟨(a.map sign).toArray⟩:=by
 have e:("" : Str) = ⟨#[]⟩:=by decide +kernel
 rw [e];show Builtin.Str.glued _ _=_;rw [StrLaws.glued_eq_join];have:=join_ones (a.map sign);rw [yaU] at this;exact this
theorem nm_of {x:Str} (h1:1<=x.length) (h2:x.length<=8) (h:x.cps.toList.all isLow=true):isNm x=true:=by
 unfold isNm;rw [decide_eq_true h1,decide_eq_true h2,h];rfl
theorem zhc (a b:Str):(a++b).cps.toList=a.cps.toList++b.cps.toList:=by rw [Str.cps_append,Array.toList_append]
theorem slice_to {x:Str} {j:Int} (a:0<=j) (h1:j<=x.length):(ydw x none (some j)).cps.toList=x.cps.toList.take j.toNat:=by
 have e:ydw x none (some j)=StrLaws.sliceText x none (some j):=rfl;rw [e,StrLaws.sliceText_to ⟨a,by rw [zcU];exact h1⟩,List.drop_zero,Int.sub_zero]
theorem slice_fr {x:Str} {j:Int} (a:0<=j) (h1:j<=x.length):(ydw x (some j) none).cps.toList=x.cps.toList.drop j.toNat:=by
 have e:ydw x (some j) none=StrLaws.sliceText x (some j) none:=rfl;have b:=zcU x;rw [e,StrLaws.sliceText_from ⟨a,by omega⟩];rw [ydr];rw [ybk];omega
def nmS (t:Str) (a:Int) (g:Int) (e:Nat):Str:=ydw t none (some a)++(⟨#[sign g]⟩:Str)++ydw t (some a) none++repS "y" e
theorem rep_y:∀ e:Nat,(repS "y" e).cps.toList=ybZ e 121
 | 0=>rfl
 | e+1=>by
  have:=rep_y e;unfold repS at this ⊢;simp only [yd6,yfC] at this ⊢;have h:("y" : Str).cps.toList = [121]:=by decide +kernel
  rw [h] at this ⊢;simpa using this
theorem nmS_cps {t:Str} {a:Int} (b:0<=a) (h1:a<=t.length) (g:Int) (e:Nat):(nmS t a g e).cps.toList=t.cps.toList.take a.toNat ++ [sign g]++t.cps.toList.drop a.toNat++ybZ e 121:=by
 unfold nmS;rw [zhc,zhc,zhc,slice_to b h1,slice_fr b h1,rep_y]
theorem nmS_ok {t:Str} {a g:Int} {e:Nat} (h:0<=a) (h1:a<=t.length) (k:t.length<=6) (lo:t.cps.toList.all isLow=true) (d:0<=g) (f:g < 26) (j:e<=1):isNm (nmS t a g e)=true:=by
 have c:=nmS_cps h h1 g e;have l:=congrArg ycb c;have i:=zcU t;rw [zcU] at l;simp only [yaK,yaA,ybk,ya4,yek,ycL] at l;refine nm_of (by omega) (by omega) ?_;rw [c,yaX];intro x b;rcases yau.mp b with b | b
 ·rcases yau.mp b with b | b
  ·rcases yau.mp b with b | b
   ·exact yaX.mp lo x (ycu b)
   ·rw [yai.mp b];exact zh6 d f
  ·exact yaX.mp lo x (ycX b)
 ·rw [(List.mem_replicate.mp b).2];decide
theorem nmS_inj {t:Str} {a g g':Int} {e f:Nat} (i:0<=a) (h1:a<=t.length) (d:0<=g) (h:g < 26) (k0:0<=g') (k1:g' < 26) (q:nmS t a g e=nmS t a g' f):g=g':=by
 have c:=congrArg (λx:Str=>x.cps.toList[a.toNat]?) q;simp only [nmS_cps i h1] at c;have lt:(t.cps.toList.take a.toNat).length=a.toNat:=by
  have:=zcU t;rw [yaA];omega
 have b:∀ (g:Int) (e:Nat),(t.cps.toList.take a.toNat ++ [sign g]++t.cps.toList.drop a.toNat++ybZ e 121)[a.toNat]? = some (sign g):=λg e=>by
  rw [yc3,yc3,ycD (by omega),lt,Nat.sub_self];rfl
 rw [b,b] at c;exact sign_inj d h k0 k1 (yaz c)
theorem zhA {f:Nat->Str} {n:Nat}:∀ {m:Nat},m<=n->(∀ i j,i < n->j < n->f i=f j->i=j)->((ycE m).map f).Nodup
 | 0,_,_=>yce
 | m+1,h,hf=>by
  rw [List.range_succ,yak,ybq];refine ⟨zhA (by omega) hf,by simp,λa d b g => ?_⟩;obtain ⟨i,hi,rfl⟩:=yao.mp d;have c:b=f m:=by simpa using g
  rw [c];intro e;have:=ydn.mp hi;have:=hf i m (by omega) (by omega) e;omega
def zf9:Sp:=λvs H Q _=>∃ (n m:Int),vs = [.int n,.int m]/\0<=n/\n < 2147483647/\0<=m/\m<=26/\∀ (D:Addr) (ys:List Str) (H':Hp),Same H H'->H D=none->H' D=some (.lst (ys.map V.str))->(ys.length:Int)=m->(∀ y∈ys,isNm y=true)->ys.Nodup->Q (.ref D) H'
def nmK (n:Int) (t:Str) (a:Int) (k:Nat):Str:=nmS t a ((n / 11+7*(0+(k:Int))) % 26) (n % 3*(0+(k:Int)) % 2).toNat
theorem zdb (T:Txt K mg):FnOk P w K mg base CX0 1 T._law_names.f T._law_names.fd ["_law_number", "_law_many"] zf9:=by
 refine T._law_names.fn.ok sc__law_names (λvs H Q E h => ?_) (λaj A outer s H vs Q E hr h => ?_)
 ·obtain ⟨n,m,rfl,_⟩:=h;rfl
 ·obtain ⟨n,m,rfl,n0,n1,h0,hm,k⟩:=h;refine ⟨_,((zad (zas (i:=2) sc__law_names.nd rfl (Or.inr rfl) zbE)
   (zad (zas (i:=3) sc__law_names.nd rfl (yaL rfl) (zdV (K:=K) rfl PySem.F.plainAttrs_str PySem.F.slot_str_join PySem.F.type_str_join (mt_joinK (K:=K) rfl) zbE (zaa (za7 (N := ["_law_k", "_law_letters", "_law_number"]) (own:=1) (caps := [2,0]) rfl (by kernel_rfl) (by kernel_rfl) (zbd rfl T.b_range (zaa (pe_op zaL (pe_op zaR (pv 0) zac) zac) zae)) (λ_ _ _ _ _=>zal (i:=0) (show List.Nodup (["_law_k", "_law_letters", "_law_number"]:List Str) by decide +kernel) rfl (yaL rfl)) (λ_ _ _ _ _=>zaW) (λ_ _ _ _ _=>(pe_ix ix_str (pv 1) (pe_op zaL (pe_op zaR (pv 2) (pe_op zbr (pe_op zbZ zac (pv 0)) zac)) zac) (λ_ _=>rfl)))) zae)))
   (zad (zas (i:=4) sc__law_names.nd rfl (yaL rfl) (pe_op zaL (pe_op zaR (pv 0) zac) (pe_op zbr (zap zbM (by rfl) T.b_len za9 (zaa (pv 3) zae)) zac)))
   (zad (zas (i:=5) sc__law_names.nd rfl (yaL rfl) (za3 zae))
   (zad (zaV yaQ rfl (zbd rfl T.b_range (zaa (pv 1) zae)) (zal (i:=6) sc__law_names.nd rfl (yaL rfl)) (zad (zas (i:=7) sc__law_names.nd rfl (yaL rfl) (pe_op zcD (pe_op zcD (zbq zhY (pv 3) zdx (zbf (pv 4))) (pe_ix ix_str (pv 2) (pe_op zaL (pe_op zbr (pe_op zaR (pv 0) zac) (pe_op zbZ zac (pv 6))) zac) (λ_ _=>rfl))) (zbq zhY (pv 3) (zbf (pv 4)) zdx)))
   (zag (zaI (zdV (K:=K) rfl ya3 ybW ybX zbG (pv 5) (zaa (pe_op zcD (pv 7) (pe_op zfP zbE (pe_op zaL (pe_op zbZ (pe_op zaL (pv 0) zac) (pv 6)) zac))) zae))))))
   (zag (zao (pv 5))))))))),?_⟩
  refine sq1 λR1 p1=>p1 ?_;refine sq1 λR2 p2 => ?_;have z0:=md0 (n / 5) (show (0:Int) < 7 by decide);have z1:=md1 (n / 5) (show (0:Int) < 7 by decide);have three:∀ i:Nat,i < 7->(0:Int) < 7*(0+(i:Int))+3/\7*(0+(i:Int))+3 < 2 ^ 64:=λi hi=>⟨by omega,by omega⟩;refine ⟨rfl,ea rfl ⟨_,_,rfl,rfl,⟨(show (0:Int) < 5 by decide),(show (5:Int) < 2 ^ 64 by decide)⟩,_,_,rfl,rfl,(show (0:Int) < 7 by decide),ea rfl ⟨by omega,by omega,λD hD => ?_⟩⟩⟩;dsimp only at z0 z1 ⊢;generalize n / 5 % 7=Z at z0 z1 ⊢;refine zaH (J:=Itr 0 Z.toNat) Z.toNat (λj u p=>∃ (v:Option V) (b:List Int),u = [v,some (.str abc),some (.int n)]/\Same H p/\p D=some (.lst (b.map λg=>V.str ⟨#[sign g]⟩))/\b.length=j/\∀ g∈b,0<=g/\g < 26)
   ?_ (λj u p M _=>M) (λu p _=>yaj _) ?_ ?_
  ·exact ⟨none,[],rfl,Same.new hD,zab,rfl,λ_ z=>nomatch z⟩
  ·rintro j u p y H4 M ⟨v,b,rfl,c,d,U,C⟩ ⟨rfl,rfl⟩;have I:=md0 (n / (7*(0+(j:Int))+3)) (show (0:Int) < 26 by decide);have G:=md1 (n / (7*(0+(j:Int))+3)) (show (0:Int) < 26 by decide);refine ea rfl (ea rfl (ea rfl ⟨_,_,rfl,rfl,.inl ⟨by decide,by decide⟩,_,_,rfl,rfl,_,_,rfl,rfl,three j (by omega),_,_,rfl,rfl,(show (0:Int) < 26 by decide),_,_,_,rfl,rfl,zah (by decide +kernel),zhO I (by rw [zg1];exact G),_,d,?_,?_⟩))
   ·rw [yab];exact zai (by omega)
   ·refine ⟨_,b ++ [n / (7*(0+(j:Int))+3) % 26],rfl,c.upd hD,by rw [zab,yak];rfl,by simp [U],λg W => ?_⟩;rcases yau.mp W with z | z
    ·exact C g z
    ·rw [yai.mp z];exact ⟨I,G⟩
  ·rintro u p ⟨v,b,rfl,c,d,U,C⟩;refine ⟨_,_,b.map λg=>(⟨#[sign g]⟩:Str),rfl,rfl,SqL.of ?_,?_,p2 ?_⟩
   ·rw [d,yaU];rfl
   ·rw [zh1 _ (λ_=>rfl),yab];have:("" : Str).length=0:=by decide +kernel
    rw [this];omega
   rw [ziT];have l:(⟨(b.map sign).toArray⟩:Str).length=b.length:=by
    show (b.map sign).toArray.size=_;simp
   have o:(⟨(b.map sign).toArray⟩:Str).cps.toList.all isLow=true:=by
    show ((b.map sign).toArray.toList).all isLow=true;rw [List.toList_toArray,ydx,yaX];intro g r;exact zh6 (C g r).1 (C g r).2
   generalize (⟨(b.map sign).toArray⟩:Str)=t at l o ⊢;have tl:t.length<=6:=by omega
   clear l d U C three;refine sq1 λR3 p3 => ?_;refine ea rfl ⟨_,_,rfl,rfl,⟨(show (0:Int) < 35 by decide),(show (35:Int) < 2 ^ 64 by decide)⟩,ea rfl ⟨t,rfl,zah (by omega),_,_,rfl,rfl,_,_,rfl,rfl,(show (0:Int) < (t.length:Int)+1 by omega),p3 ?_⟩⟩;have a0:=md0 (n / 35) (show (0:Int) < (t.length:Int)+1 by omega);have a1:=md1 (n / 35) (show (0:Int) < (t.length:Int)+1 by omega);dsimp only at a0 a1 ⊢;generalize n / 35 % ((t.length:Int)+1)=a at a0 a1 ⊢;refine sq1 λR4 p4 => ?_;refine ⟨yaW _,λR q=>p4 ?_⟩;refine sq1 λR5 p5 => ?_;refine ⟨_,rfl,_,rfl,by omega,by omega,zbs (lo:=0) (n:=m.toNat) (λi L B=>∃ (Y nm:Option V),L = [some (.int n),some (.int m),some (.str abc),some (.str t),some (.int a),some (.ref R),Y,nm]/\Same p B/\B R=some (.lst (((ycE i).map (nmK n t a)).map V.str)))
    ⟨none,none,rfl,Same.new q,zab⟩ ?_ ?_⟩
   ·rintro i L B hi ⟨Y,nm,rfl,S,hd⟩;have I:=md0 (n / 11+7*(0+(i:Int))) (show (0:Int) < 26 by decide);have G:=md1 (n / 11+7*(0+(i:Int))) (show (0:Int) < 26 by decide);have O:=yec t none (some a);have s2:=yec t (some a) none;have e0:=md0 (n % 3*(0+(i:Int))) (show (0:Int) < 2 by decide);have e1:=md1 (n % 3*(0+(i:Int))) (show (0:Int) < 2 by decide);have m0:=md0 n (show (0:Int) < 3 by decide);have m1:=md1 n (show (0:Int) < 3 by decide);have one:(⟨#[sign ((n / 11+7*(0+(i:Int))) % 26)]⟩:Str).length=1:=rfl;refine sq1 λR6 p6 => ?_;refine ea rfl (ea rfl ⟨_,rfl,t,rfl,zah (by omega),ea rfl (ea rfl ⟨_,_,rfl,rfl,⟨(show (0:Int) < 11 by decide),(show (11:Int) < 2 ^ 64 by decide)⟩,ea rfl ⟨_,_,rfl,rfl,.inl ⟨by decide,by decide⟩,_,_,rfl,rfl,_,_,rfl,rfl,(show (0:Int) < 26 by decide),_,_,_,rfl,rfl,zah (by decide +kernel),zhO I (by rw [zg1];exact G),?_⟩⟩)⟩);refine ⟨_,_,rfl,rfl,zah (show _+_<=100000 from ?_),ea rfl (ea rfl ⟨_,rfl,t,rfl,zah (by omega),_,_,rfl,rfl,zah (show _+_<=100000 from ?_),p6 ?_⟩)⟩
    ·exact yaY (ydZ O (yfp one)) (by omega)
    ·rw [Str.length_append];exact yaY (ydZ (ydZ O (yfp one)) s2) (by omega)
    have yl:(repS "y" (n % 3*(0+(i:Int)) % 2).toNat).length<=2:=by
     rw [<- zcU,rep_y,ycL];omega
    refine ea rfl ⟨.inl ⟨rfl,_,SqL.of hd⟩,ea rfl (ea rfl ⟨_,_,rfl,rfl,(show (0:Int) < 3 by decide),ea rfl ⟨_,_,rfl,rfl,.inl ⟨by omega,by omega⟩,_,_,rfl,rfl,(show (0:Int) < 2 by decide),?_⟩⟩)⟩;refine ⟨_,_,rfl,rfl,e0,by decide +kernel,by omega,_,_,rfl,rfl,zah (show _+_<=100000 from ?_),_,_,ea rfl ⟨rfl,hd,?_,?_⟩⟩
    ·rw [Str.length_append,Str.length_append];exact yaY (ydZ (ydZ (ydZ O (yfp one)) s2) yl) (by omega)
    ·rw [yab,yab,List.length_range];exact zai (by omega)
    ·refine ⟨_,_,rfl,S.upd q,?_⟩;rw [zab,List.range_succ,yak,yak];rfl
   ·rintro L B ⟨Y,nm,rfl,S,hd⟩;refine p5 ?_;refine ea rfl (k R _ B (c.trans S) (c.free q) hd (by rw [yab,List.length_range];omega) (λy hy => ?_) (zhA (n:=26) (by omega) λi j hi M e => ?_))
    ·obtain ⟨i,_,rfl⟩:=yao.mp hy;have e0:=md0 (n % 3*(0+(i:Int))) (show (0:Int) < 2 by decide);have e1:=md1 (n % 3*(0+(i:Int))) (show (0:Int) < 2 by decide);exact nmS_ok a0 (by omega) tl o (md0 _ (by decide)) (md1 _ (by decide)) (by omega)
    ·have:=nmS_inj a0 (by omega) (md0 _ (by decide)) (md1 _ (by decide)) (md0 _ (by decide)) (md1 _ (by decide)) e;omega
def TabL (ex:List Addr) (H:Hp) (t:Addr) (d:Tab):Prop:=∃ (ca:Addr) (qs:List Addr),H t=some (.tup [.str d.1,.ref ca])/\H ca=some (.lst (qs.map V.ref))/\ColsAt H qs d.2/\ca∉ex
theorem TabL.ch {ex:List Addr} {H H':Hp} {t D:Addr} {d:Tab} {xs:List V} (h:TabL ex H t d) (hd:H D=some (.lst xs)) (i:D∈ex) (c:Ch1 D H H'):TabL ex H' t d:=by
 obtain ⟨f,g,a,b,e,n⟩:=h;have k:∀ b xs,H b=some (.tup xs)->H' b=some (.tup xs):=λb ys z=>c b _ (λy=>by rw [y,hd] at z;cases z) z;exact ⟨f,g,k _ _ a,c _ _ (λz:f=D=>n (by rw [z];exact i)) b,Paired.mapP e λ_ _ z=>k _ _ z,n⟩
theorem TabL.same {ex:List Addr} {H H':Hp} {t:Addr} {d:Tab} (h:TabL ex H t d) (s:Same H H'):TabL ex H' t d:=by
 obtain ⟨f,g,a,b,c,e⟩:=h;exact ⟨f,g,s _ _ a,s _ _ b,c.same s,e⟩
def TabsL (ex:List Addr) (H:Hp) (ts:List Addr) (ds:List Tab):Prop:=Paired (TabL ex H) ts ds
theorem TabsL.same {ex:List Addr} {H H':Hp} {ts:List Addr} {ds:List Tab} (h:TabsL ex H ts ds) (s:Same H H'):TabsL ex H' ts ds:=Paired.mapP h λ_ _ e=>e.same s
theorem TabsL.ch {ex:List Addr} {H H':Hp} {D:Addr} {ts:List Addr} {ds:List Tab} {xs:List V} (h:TabsL ex H ts ds) (hd:H D=some (.lst xs)) (a:D∈ex) (c:Ch1 D H H'):TabsL ex H' ts ds:=Paired.mapP h λ_ _ e=>e.ch hd a c
theorem ColsAt.ch {H H':Hp} {D:Addr} {a:List Addr} {cs:List Col} {xs:List V} (h:ColsAt H a cs) (hd:H D=some (.lst xs)) (c:Ch1 D H H'):ColsAt H' a cs:=Paired.mapP h λ_ _ z=>c _ _ (λy=>by rw [y,hd] at z;cases z) z
def somes (ds:List Tab):List Col:=ds.flatMap λd=>(d.2.drop 1).map λc=>(d.1,c.1)
theorem zfJ (ds:List Tab) (d:Tab):somes (ds ++ [d])=somes ds++(d.2.drop 1).map λc=>(d.1,c.1):=by
 unfold somes;rw [yfh];simp
theorem somes_ok {ds:List Tab} (h:∀ d∈ds,okTab d.1 d.2):∀ c∈somes ds,okOrd ds c:=λc hc=>by
 obtain ⟨d,hd,e⟩:=ybO.mp hc;obtain ⟨q,b,rfl⟩:=yao.mp e;obtain ⟨k,a,rfl⟩:=List.getElem_of_mem hd;have ok:=h _ (yam a);exact ⟨ok.1,(ok.2.2.2.1 q (ycX b)).1,k,a,rfl,yao.mpr ⟨q,b,rfl⟩⟩
theorem zeQ:∀ {ds:List Tab},(∀ d∈ds,okTab d.1 d.2)->(ds.map (·.1)).Nodup->(somes ds).Nodup
 | [],_,_=>yce
 | d :: ds,h,nd=>by
  rw [yaw,ybm] at nd;show ((d.2.drop 1).map (λc=>(d.1,c.1))++somes ds).Nodup;rw [ybq];refine ⟨?_,zeQ (λe g=>h e (yal _ g)) nd.2,λa k b j e => ?_⟩
  ·have m:((d.2.drop 1).map (·.1)).Nodup:=by
    rw [yes];exact (h d yax).2.2.2.2.sublist (List.drop_sublist ..)
   have e:(d.2.drop 1).map (λc=>(d.1,c.1))=((d.2.drop 1).map (·.1)).map λn=>(d.1,n):=by rw [yaU];rfl
   rw [e];exact List.Pairwise.map _ (λa b z y=>z (Prod.mk.inj y).2) m
  ·obtain ⟨q,o,rfl⟩:=yao.mp k;obtain ⟨d',f,i⟩:=ybO.mp j;obtain ⟨p,l,rfl⟩:=yao.mp i;exact nd.1 (yao.mpr ⟨d',f,(Prod.mk.inj e).1.symm⟩)
theorem zeT {xs:List V} {i:Int} {P:V->Prop} (h:∀ v∈xs,P v) (a:0<=i) (h1:i < xs.length):∃ v,atI xs i=some v/\P v:=by
 have lt:i.toNat < xs.length:=by omega
 exact ⟨xs[i.toNat],zdJ a (yaa lt),h _ (yam lt)⟩
section
variable {H:Hp} {l:Addr} {ts:List Addr} {xs ys:List V}
theorem zipH_l:zipH H l ts xs ys l=some (.lst (ts.map V.ref)):=if_pos rfl
theorem zipH_same (f:H l=none) (c:∀ a∈ts,H a=none/\a≠l):Same H (zipH H l ts xs ys):=λb o e=>by
 unfold zipH;rw [if_neg (λz=>by rw [z,f] at e;cases e)];cases d:ts.idxOf? b with
 | none=>exact e
 | some j =>
  have:=idx_at ts b j d;rw [(c b (ycV this)).1] at e;cases e
theorem zipH_t {j:Nat} {a:Addr} {x y:V} (f:ts.Nodup) (d:∀ a∈ts,H a=none/\a≠l) (c:ts[j]? = some a) (g:xs[j]? = some x) (e:ys[j]? = some y):zipH H l ts xs ys a=some (.tup [x,y]):=by
 have m:=ycV c;unfold zipH;rw [if_neg (d a m).2];cases b:ts.idxOf? a with
 | none =>
  exfalso;rw [List.idxOf?_eq_none_iff] at b;exact b m
 | some i =>
  have hi:=idx_at ts a i b;have:i=j:=(List.getElem?_inj (yav.mp hi).1 f).mp (hi.trans c.symm);subst this;simp only [g,e]
end
def zfb:Sp:=λvs H Q _=>∃ (c:Int),vs = [.int c]/\∀ (r t o:Addr) (ts qs:List Addr) (tabs:List Tab) (ords:List Col) (H':Hp),Same H H'->H r=none->H t=none->H o=none->t≠o->H' r=some (.tup [.ref t,.ref o])->H' t=some (.lst (ts.map V.ref))->H' o=some (.lst (qs.map V.ref)) ->
 TabsL [t,o] H' ts tabs->(∀ u∈ts,∀ n ca,H' u=some (.tup [.str n,.ref ca])->H ca=none)->ColsAt H' qs ords->zaY tabs->zfI tabs ords->Q (.ref r) H'
structure ScI (H:Hp) (D N A B:Addr) (ds:List Int) (ys:List Str) (i:Nat) (H4:Hp) (ts ss:List Addr) (tabs:List Tab) (os:List Col):Prop where
 sm:Same H H4
 d4:H4 D=some (.lst (ds.map V.int))
 n4:H4 N=some (.lst (ys.map V.str))
 a4:H4 A=some (.lst (ts.map V.ref))
 b4:H4 B=some (.lst (ss.map V.ref))
 tl:TabsL [A,B] H4 ts tabs
 sl:ColsAt H4 ss os
 sub:os.Sublist (somes tabs)
 le:os.length<=4
 tn:tabs.map (·.1)=ys.take i
 ok:∀ d∈tabs,okTab d.1 d.2
 fr:∀ t∈ts,∀ n ca,H4 t=some (.tup [.str n,.ref ca])->H ca=none
theorem kd_of {ks:List Str} (h:∀ k∈ks,k=("number" : Str)\/k=("word" : Str)):∀ {a:List Str},a.length=ks.length->(∀ z∈a,isNm z=true)->∀ q∈a.zip ks,okCol q:=λ{a} _ hz q b=>⟨hz _ (yeh b).1,h _ (yeh b).2⟩
theorem zc9 {α c:Type} {F:α->c->Prop}:∀ {as:List α} {bs:List c},as.length=bs.length->(∀ (j:Nat) (h1:j < as.length) (h2:j < bs.length),F as[j] bs[j])->Paired F as bs
 | [],[],_,_ => .nil
 | [],_ :: _,h,_=>nomatch h
 | _ :: _,[],h,_=>nomatch h
 | a :: as,b :: bs,h,f => .cons (f 0 (Nat.zero_lt_succ _) (Nat.zero_lt_succ _)) (zc9 (yb5 h) λj h1 h2=>f (j+1) (Nat.succ_lt_succ h1) (Nat.succ_lt_succ h2))
theorem ziS {α b:Type} {F:α->b->Prop} {as:List α} {bs:List b} (h:Paired F as bs):Paired F as.reverse bs.reverse:=by
 induction h with
 | nil=>exact .nil
 | cons a _ c =>
  rw [yeE,yeE];exact Paired.snoc c a
theorem zds {ex:List Addr} {H:Hp} {ts:List Addr} {tabs:List Tab} {t:Addr} (h:TabsL ex H ts tabs) (f:t∈ts):∃ (c:Addr) (d:Tab),H t=some (.tup [.str d.1,.ref c])/\d∈tabs/\c∉ex:=by
 obtain ⟨i,hi,e⟩:=ybo.mp f;have b:i < tabs.length:=by rw [<- yaC h];exact hi
 obtain ⟨c,g,a,_,_,n⟩:=Paired.at h i hi b;exact ⟨c,tabs[i],e ▸ a,yam b,n⟩
theorem zfp (T:Txt K mg):FnOk P w K mg base CX0 2 T._law_schema.f T._law_schema.fd ["_law_cell"] zfb:=by
 refine T._law_schema.fn.ok sc__law_schema (λvs H Q E h => ?_) (λcU A outer s H vs Q E hr h => ?_)
 ·obtain ⟨c,rfl,_⟩:=h;rfl
 ·obtain ⟨c,rfl,k⟩:=h;have c4:=hr.units0;refine ⟨_,((zad (zas (i:=1) sc__law_schema.nd rfl (Or.inr rfl) (zaq (za4 T) (hr.mono (by decide)) rfl (zaa (pv 0) (zaa zac zae))))
   (zad (zas (i:=2) sc__law_schema.nd rfl (yaL rfl) (za3 zae))
   (zad (zas (i:=3) sc__law_schema.nd rfl (yaL rfl) (za3 zae))
   (zad (zaV yaQ rfl (zg4 (K:=K) rfl rfl T.b_enumerate (zaa (zaq (zdb T) (hr.mono (by decide)) rfl (zaa (pe_ix (zam (K:=K) rfl) (pv 1) zac (λ_ _=>rfl)) (zaa (pe_ix (zam (K:=K) rfl) (za3 (zaa zac (zaa zac (zaa zac (zaa zac (zaa zac (zaa zac (zaa zac (zaa zac zae))))))))) (pe_op zaL (pe_ix (zam (K:=K) rfl) (pv 1) zac (λ_ _=>rfl)) zac) (λ_ _=>rfl)) zae))) zae)) (zbe (K:=K) (n:=2) rfl rfl (zat ((zal (i:=4) sc__law_schema.nd rfl (yaL rfl))) (zat ((zal (i:=5) sc__law_schema.nd rfl (yaL rfl))) zbj))) (zad (zas (i:=6) sc__law_schema.nd rfl (yaL rfl) (zaq (zdb T) (hr.mono (by decide)) rfl (zaa (pe_ix (zam (K:=K) rfl) (pv 1) (pe_op zbr zac (pv 4)) (λ_ _=>rfl)) (zaa (pe_op zbr zac (pe_op zaL (pe_ix (zam (K:=K) rfl) (pv 1) (pe_op zbr zac (pv 4)) (λ_ _=>rfl)) zac)) zae))))
   (zad (zas (i:=7) sc__law_schema.nd rfl (Or.inr rfl) (pe_ix (zam (K:=K) rfl) (za3 (zaa zac (zaa zac (zaa zac (zaa zac zae))))) (pv 4) (λ_ _=>rfl)))
   (zad (zew (i:=8) sc__law_schema.nd rfl (yaL rfl) (N := ["_law_j", "_law_numbers", "_law_place"]) (own:=1) (caps := [1,7]) rfl (by kernel_rfl) (by kernel_rfl) (zbd rfl T.b_range (zaa (zap (zav (K:=K) rfl) (by rfl) T.b_len za9 (zaa (pv 6) zae)) zae)) (λ_ _ _ _ _=>zal (i:=0) (show List.Nodup (["_law_j", "_law_numbers", "_law_place"]:List Str) by decide +kernel) rfl (yaL rfl)) (λ_ _ _ _ _=>zaW) (λ_ _ _ _ _=>(pe_ix (zam (K:=K) rfl) (za3 (zaa zbE (zaa zbE zae))) (pe_op zaL (pe_op zaR (pe_op zaR (pe_ix (zam (K:=K) rfl) (pv 1) zac (λ_ _=>rfl)) (pv 2)) (pe_ix (zam (K:=K) rfl) (za3 (zaa zac (zaa zac (zaa zac (zaa zac zae))))) (pv 0) (λ_ _=>rfl))) zac) (λ_ _=>rfl))))
   (zad (zaI (zdV (K:=K) rfl ya3 ybW ybX zbG (pv 2) (zaa (zaU (zaa (pv 5) (zaa (zgO (lo_zip (K:=K) rfl rfl) (by rfl) T.b_list (by rfl) T.b_zip bt_zip (zaa (pv 6) (zaa (pv 8) zae))) zae))) zae)))
   (zag (zaV yaQ rfl (pi_range2 rfl T.b_range (zaa zac (zaa (zap (zav (K:=K) rfl) (by rfl) T.b_len za9 (zaa (pv 6) zae)) zae))) (zal (i:=9) sc__law_schema.nd rfl (yaL rfl)) (zag (ps_if (PW.pt (zgn (zaz op_eq (pe_op zaL (pe_op zaR (pe_op zaR (pe_ix (zam (K:=K) rfl) (pv 1) zac (λ_ _=>rfl)) (pv 7)) (pe_ix (zam (K:=K) rfl) (za3 (zaa zac (zaa zac (zaa zac (zaa zac zae))))) (pv 9) (λ_ _=>rfl))) zac) zac (zaD _)) (zeP (zaz op_lt (zap (zav (K:=K) rfl) (by rfl) T.b_len za9 (zaa (pv 3) zae)) zac (zaD _))))) (zag (zaI (zdV (K:=K) rfl ya3 ybW ybX zbG (pv 3) (zaa (zaU (zaa (pv 5) (zaa (pe_ix (zam (K:=K) rfl) (pv 6) (pv 9) (λ_ _=>rfl)) zae))) zae)))) zau)))))))))
   (zad (ps_if (zaz op_eq (pe_op zaL (pe_ix (zam (K:=K) rfl) (pv 1) zac (λ_ _=>rfl)) zac) zac (zaD _)) (zag (zaI (zdG (K:=K) rfl ya3 PySem.F.slot_list_reverse PySem.F.type_list_reverse ziq (pv 3)))) zau)
   (zag (zao (zaU (zaa (pv 2) (zaa (pv 3) zae))))))))))),?_⟩
  refine sq1 λR1 p1 => ?_;refine ea rfl ⟨c,13,rfl,by decide,by decide,λD ds H1 s1 hD hd hl az=>p1 ?_⟩;refine sq1 λR2 p2 => ?_;refine ⟨yaW _,λA hA=>p2 ?_⟩;refine sq1 λR3 p3 => ?_;refine ⟨yaW _,λB hB=>p3 ?_⟩;have sA:Same H1 (upd H1 A (.lst [])):=Same.new hA;have sB:Same (upd H1 A (.lst [])) (upd (upd H1 A (.lst [])) B (.lst [])):=Same.new hB;have af:=sB _ _ (zab (H:=H1) (a:=A) (o := .lst []));have ai:(upd (upd H1 A (.lst [])) B (.lst [])) B=some (.lst []):=zab;have s2:=sA.trans sB;generalize upd (upd H1 A (.lst [])) B (.lst [])=H2 at af ai s2 ⊢;have as:A≠B:=λe=>by rw [<- e,zab] at hB;cases hB
  have d2:=s2 _ _ hd;have c9:ds.length=13:=by omega
  refine sq1 λR4 p4 => ?_;have x0:=md0 (ds.getD (1:Int).toNat 0) (show (0:Int) < 8 by decide);have x1:=md1 (ds.getD (1:Int).toNat 0) (show (0:Int) < 8 by decide);obtain ⟨v,W,n,rfl,de,c0⟩:=zeT (xs := [V.int 1,.int 2,.int 3,.int 1,.int 2,.int 3,.int 2,.int 4]) (P:=λv=>∃ n:Int,v = .int n/\1<=n/\n<=4) (by
   intro v W;simp only [yaJ,yb7,or_false] at W;rcases W with rfl | rfl | rfl | rfl | rfl | rfl | rfl | rfl <;> exact ⟨_,rfl,by decide,by decide⟩) x0 x1
  refine ea rfl (ixLc (SqL.of d2) (zaO (by decide) (by omega)) ⟨zah (show 8<=100000 by decide),λp hp => ?_⟩);have np:D≠p:=λz=>by rw [<- z,d2] at hp;cases hp
  have dp:(upd H2 p (.lst [V.int 1,.int 2,.int 3,.int 1,.int 2,.int 3,.int 2,.int 4])) D=some (.lst (ds.map V.int)):=(zaf np).trans d2;refine ea rfl (ixLc (SqL.of dp) (zaO (by decide) (by omega)) ⟨_,_,rfl,rfl,(show (0:Int) < 8 by decide),ixL (SqL.of zab) W ⟨_,n,rfl,(az.at (by omega)).1,(az.at (by omega)).2,by omega,by omega,λN ys H3 s3 hN a9 hm hy bV=>⟨N,rfl,⟨_,SqL.of a9⟩,?_⟩⟩⟩);have al:Same H2 H3:=(Same.new hp).trans s3;have b7:N≠A:=λe=>by rw [e,(zaf (λz:A=p=>by rw [<- z,af] at hp;cases hp):(upd H2 p _) A=_),af] at hN;cases hN
  have cl:N≠B:=λe=>by rw [e,(zaf (λz:B=p=>by rw [<- z,ai] at hp;cases hp):(upd H2 p _) B=_),ai] at hN;cases hN
  have bj:D≠A:=λe=>by rw [<- e,hd] at hA;cases hA
  have bQ:D≠B:=λe=>by rw [<- e,zaf bj,hd] at hB;cases hB
  have fA:H A=none:=s1.free hA;have fB:H B=none:=(s1.trans sA).free hB;have i0:ScI H D N A B ds ys 0 H3 [] [] [] []:=⟨(s1.trans s2).trans al,al _ _ d2,a9,al _ _ af,al _ _ ai,.nil,.nil,yeJ _,by decide,rfl,(λ_ z=>nomatch z),λ_ z=>nomatch z⟩;clear hA hB sA sB af ai s2 s1 hN s3 dp np hp d2 al;refine zia (K:=K) (a:=N) (xs:=ys.map V.str) (λi σ H4=>∃ (v4 v5 v6 v7 v8 v9:Option V) (ts ss:List Addr) (tabs:List Tab) (os:List Col),σ = [some (.int c),some (.ref D),some (.ref A),some (.ref B),v4,v5,v6,v7,v8,v9]/\ScI H D N A B ds ys i H4 ts ss tabs os)
   ⟨none,none,none,none,none,none,[],[],[],[],rfl,i0⟩ (by rintro i σ H4 _ ⟨_,_,_,_,_,_,_,_,_,_,_,h⟩;exact SqL.of h.n4) ?_ ?_
  ·rintro i x u σ H4 hx ⟨v4,v5,v6,v7,v8,v9,ts,ss,tabs,os,rfl,I⟩ hu;have hi:i < ys.length:=by
    have:=(List.getElem?_eq_some_iff.1 hx).1
    rwa [yab] at this
   have c2:i < 4:=by omega
   rw [yaf,yaa hi] at hx;cases hx;refine ⟨u,ea rfl ⟨SqT.of zab,rfl,_,ea rfl ⟨_,ea rfl ⟨rfl,?_⟩⟩⟩⟩;have s5:Same H4 (upd H4 u (.tup [.int i,.str ys[i]])):=Same.new hu;generalize upd H4 u (.tup [.int i,.str ys[i]])=H5 at s5 ⊢;have d5:=s5 _ _ I.d4;have y0:=md0 (ds.getD ((6:Int)+(i:Int)).toNat 0) (show (0:Int) < 4 by decide);have y1:=md1 (ds.getD ((6:Int)+(i:Int)).toNat 0) (show (0:Int) < 4 by decide);refine sq1 λR5 p5 => ?_;refine ea rfl (ea rfl ⟨_,_,rfl,rfl,ixL (SqL.of d5) (zaO (by omega) (by omega)) (ea rfl (ea rfl ⟨_,_,rfl,rfl,ixL (SqL.of d5) (zaO (by omega) (by omega)) ⟨_,_,rfl,rfl,(show (0:Int) < 4 by decide),_,_,rfl,rfl,_,_,rfl,(az.at (by omega)).1,(az.at (by omega)).2,?_,?_,λM g H6 s6 hM bM bR hz a1=>p5 ?_⟩⟩))⟩)
   ·omega
   ·omega
   have lz:1<=g.length/\g.length<=4:=by omega
   clear bR y0 y1;obtain ⟨v,W,pl,rfl,a2,be⟩:=zeT (xs := [V.int 1,.int 16,.int 256,.int 4096]) (i:=(i:Int)) (P:=λv=>∃ n:Int,v = .int n/\0 < n/\n < 2 ^ 64) (by
    intro v W;simp only [yaJ,yb7,or_false] at W;rcases W with rfl | rfl | rfl | rfl <;> exact ⟨_,rfl,by decide,by decide⟩) (by omega) (by show (i:Int) < 4;omega)
   refine sq1 λR6 p6 => ?_;refine ⟨zah (show 4<=100000 by decide),λp hp=>ea rfl (ixL (SqL.of zab) W (p6 ?_))⟩;have s7:Same H6 (upd H6 p (.lst [V.int 1,.int 16,.int 256,.int 4096])):=Same.new hp;generalize upd H6 p (.lst [V.int 1,.int 16,.int 256,.int 4096])=H7 at s7 ⊢;have M7:=s7 _ _ bM;have aU:Same H4 H7:=(s5.trans s6).trans s7;have d7:=aU _ _ I.d4;have eight:∀ j:Int,0<=j->j < 4->∃ v,atI [V.int 1,.int 2,.int 4,.int 8] j=some v/\∃ n:Int,v = .int n/\0 < n/\n < 2 ^ 64:=λj h0 h1=>zeT (by
    intro v W;simp only [yaJ,yb7,or_false] at W;rcases W with rfl | rfl | rfl | rfl <;> exact ⟨_,rfl,by decide,by decide⟩) h0 (by show j < 4;exact h1)
   refine sq1 λR7 p7 => ?_;refine ea rfl ⟨_,_,rfl,.inl (SqL.of M7),ea rfl ⟨by rw [yab];omega,by rw [yab];omega,λE' hE => ?_⟩⟩;rw [yab];refine zaH (J:=Itr 0 ((g.length:Int)).toNat) g.length (λj τ H8=>∃ (v:Option V) (ks:List Str),τ = [v,some (.ref D),some (.int pl)]/\Same H7 H8/\H8 E'=some (.lst (ks.map V.str))/\ks.length=j/\∀ k∈ks,k=("number" : Str)\/k=("word" : Str))
    ?_ (λj τ H8 hj _=>by show j < ((g.length:Int)).toNat;omega) (λτ H8 _=>by show ((g.length:Int)).toNat<=g.length;omega) ?_ ?_
   ·exact ⟨none,[],rfl,Same.new hE,zab,rfl,λ_ z=>nomatch z⟩
   ·rintro j τ H8 y H9 hj ⟨v,ks,rfl,aj,aR,ba,aS⟩ ⟨rfl,rfl⟩;obtain ⟨v2,aN,n2,rfl,aO,aQ⟩:=eight (0+(j:Int)) (by omega) (by omega);refine ⟨zah (show 2<=100000 by decide),λq hq => ?_⟩;have S:Same H9 (upd H9 q (.lst [.str "number",.str "word"])):=Same.new hq;have aJ:(upd H9 q (.lst [.str "number",.str "word"])) q=some (.lst [.str "number",.str "word"]):=zab;generalize upd H9 q (.lst [.str "number",.str "word"])=L at S aJ ⊢;have cd:=S _ _ (aj _ _ d7);refine ea rfl (ixLc (SqL.of cd) (zaO (by decide) (by omega)) (ea rfl ⟨_,_,rfl,rfl,⟨a2,be⟩,zah (show 4<=100000 by decide),λq2 aa=>ea rfl (ixL (SqL.of zab) aN ⟨_,_,rfl,rfl,⟨aO,aQ⟩,_,_,rfl,rfl,(show (0:Int) < 2 by decide),?_⟩)⟩));have nq:q≠q2:=λz=>by rw [<- z,aJ] at aa;cases aa
    obtain ⟨vk,bG,kd,rfl,bO⟩:=zeT (xs := [V.str "number",.str "word"]) (P:=λv=>∃ kd:Str,v = .str kd/\(kd = "number"\/kd = "word")) (i:=ds.getD (10:Int).toNat 0 / pl / n2 % 2) (by
     intro v W;simp only [yaJ,yb7,or_false] at W;rcases W with rfl | rfl
     ·exact ⟨_,rfl,.inl rfl⟩
     ·exact ⟨_,rfl,.inr rfl⟩) (md0 _ (by decide)) (md1 _ (by decide))
    refine ixL (SqL.of ((zaf nq).trans aJ)) bG ?_;have bd:Same L (upd L q2 (.lst [V.int 1,.int 2,.int 4,.int 8])):=Same.new aa;generalize upd L q2 (.lst [V.int 1,.int 2,.int 4,.int 8])=aB at bd ⊢;have bq:=S.trans bd;refine ⟨_,bq _ _ aR,by rw [yab];exact zai (by omega),_,ks ++ [kd],rfl,(aj.trans bq).upd hE,by rw [zab,yak];rfl,by simp [ba],λk hk => ?_⟩;rcases yau.mp hk with z | z
    ·exact aS k z
    ·rw [yai.mp z];exact bO
   ·rintro τ H8 ⟨v,ks,rfl,aj,aR,ba,aS⟩;refine p7 ?_;have S8:Same H4 H8:=aU.trans aj;have M8:=aj _ _ M7;have a8:=S8 _ _ I.a4;have c6:E'≠A:=λz=>by rw [z,aU _ _ I.a4] at hE;cases hE
    have lk:(g.map V.str).length=(ks.map V.str).length:=by rw [yab,yab];omega
    refine sq1 λR8 p8 => ?_;refine ea rfl ⟨.inl ⟨rfl,_,SqL.of a8⟩,ea rfl (ea rfl (ea rfl ⟨M,E',g.map V.str,ks.map V.str,rfl,SqL.of M8,SqL.of aR,lk,(λz=>by have:=congrArg ycb z;rw [yab,yek] at this;omega),by rw [yab];omega,λr tz Z cj nd bh => ?_⟩))⟩;have s9:=zipH_same (xs:=g.map V.str) (ys:=ks.map V.str) Z bh;have r9:=zipH_l (H:=H8) (l:=r) (ts:=tz) (xs:=g.map V.str) (ys:=ks.map V.str);have aZ:ColsAt (zipH H8 r tz (g.map V.str) (ks.map V.str)) tz (g.zip ks):=by
     rw [yab] at cj;refine zc9 (by rw [ydC];omega) λj h1 h2 => ?_;have hj:j < g.length:=by omega
     have ce:j < ks.length:=by omega
     rw [List.getElem_zip];exact zipH_t nd bh (yaa h1) (by rw [yaf,yaa hj];rfl) (by rw [yaf,yaa ce];rfl)
    have bi:r≠A:=λz=>by rw [z,a8] at Z;cases Z
    have bW:r≠B:=λz=>by rw [z,S8 _ _ I.b4] at Z;cases Z
    generalize zipH H8 r tz (g.map V.str) (ks.map V.str)=H9 at s9 r9 aZ ⊢;refine ⟨zah (show 2<=100000 by decide),λt ht => ?_⟩;have S:Same H9 (upd H9 t (.tup [.str ys[i],.ref r])):=Same.new ht;have ab:(upd H9 t (.tup [.str ys[i],.ref r])) t=some (.tup [.str ys[i],.ref r]):=zab;generalize upd H9 t (.tup [.str ys[i],.ref r])=L at S ab ⊢;have R:Same H4 L:=(S8.trans s9).trans S;have a10:=R _ _ I.a4;have lt:ts.length=i:=by
     have:=yaC I.tl;have e2:=congrArg ycb I.tn;rw [yab,yaA] at e2;omega
    refine ⟨_,_,_,rfl,rfl,a10,by rw [yab];exact zai (by omega),p8 ?_⟩;have c11:Ch1 A L (upd L A (.lst (ts.map V.ref ++ [.ref t]))):=λb o nb e=>(zaf nb).trans e;have SH:Same H (upd L A (.lst (ts.map V.ref ++ [.ref t]))):=(I.sm.trans R).upd fA;have a11:(upd L A (.lst (ts.map V.ref ++ [.ref t]))) A=some (.lst ((ts ++ [t]).map V.ref)):=by rw [zab,yak];rfl
    generalize upd L A (.lst (ts.map V.ref ++ [.ref t]))=aB at c11 SH a11 ⊢;have bN:=c11 _ _ (ybt as) (R _ _ I.b4);have bH:okTab ys[i] (g.zip ks):=⟨hy _ (yam hi),by rw [ydC];omega,by rw [ydC];omega,kd_of aS (by omega) hz,by rw [List.map_fst_zip (by omega)];exact a1⟩;have bJ:TabL [A,B] aB t (ys[i],g.zip ks):=⟨r,tz,c11 _ _ (λz=>by rw [z,a10] at ab;cases ab) ab,c11 _ _ bi (S _ _ r9),ColsAt.ch (aZ.same S) a10 c11,by simp [bi,bW]⟩;have bm:aB M=some (.lst (g.map V.str)):=c11 _ _ (λz=>by rw [z,s5 _ _ I.a4] at hM;cases hM) (S _ _ (s9 _ _ M8));have ci:M≠B:=λz=>by rw [z,s5 _ _ I.b4] at hM;cases hM
    have b1:ScI H D N A B ds ys (i+1) aB (ts ++ [t]) ss (tabs ++ [(ys[i],g.zip ks)]) os:=by
     refine ⟨SH,c11 _ _ bj (R _ _ I.d4),c11 _ _ b7 (R _ _ I.n4),a11,bN,Paired.snoc (TabsL.ch (I.tl.same R) a10 (by simp) c11) bJ,ColsAt.ch (I.sl.same R) a10 c11,?_,I.le,?_,?_,λt' G n ca e => ?_⟩
     ·rw [zfJ];exact I.sub.trans (List.sublist_append_left _ _)
     ·rw [yak,I.tn,yb1,yaa hi];rfl
     ·intro d hd;rcases yau.mp hd with z | z
      ·exact I.ok d z
      ·rw [yai.mp z];exact bH
     ·have a7:L t'=some (.tup [.str n,.ref ca])->H ca=none:=λe=>by
       rcases yau.mp G with z | z
       ·obtain ⟨ao,ah,x1,_⟩:=zds I.tl z;have:=I.fr t' z _ _ x1;rw [R _ _ x1] at e;cases e;exact this
       ·rw [yai.mp z,ab] at e;cases e;exact (I.sm.trans S8).free Z
      refine a7 ?_;have:∃ xs,L t'=some (.tup xs):=by
       rcases yau.mp G with z | z
       ·obtain ⟨ao,ah,x1,_⟩:=zds I.tl z;exact ⟨_,R _ _ x1⟩
       ·rw [yai.mp z];exact ⟨_,ab⟩
      obtain ⟨xs,hx⟩:=this;rw [c11 _ _ (λz=>by rw [z,a10] at hx;cases hx) hx] at e;rw [hx,e]
    have zl:(g.zip ks).length=g.length:=by rw [ydC];omega
    refine ea rfl ⟨_,_,rfl,.inl (SqL.of bm),_,_,rfl,by rw [yab];omega,?_⟩;rw [yab];refine zbs (lo:=1) (n:=((g.length:Int) - 1).toNat) (λj σ U=>∃ (v9:Option V) (m:List Addr) (C:List Col),σ = [some (.int c),some (.ref D),some (.ref A),some (.ref B),some (.int i),some (.str ys[i]),some (.ref M),some (.int pl),some (.ref E'),v9]/\U M=some (.lst (g.map V.str))/\C.Sublist (somes tabs++(((g.zip ks).drop 1).take j).map λc=>(ys[i],c.1)) /\
      ScI H D N A B ds ys (i+1) U (ts ++ [t]) m (tabs ++ [(ys[i],g.zip ks)]) C) ⟨v9,ss,os,rfl,bm,by rw [List.take_zero,ydv,ych];exact I.sub,b1⟩ ?_ ?_
    ·rintro j σ U hj ⟨bL,m,C,rfl,av,an,J⟩;obtain ⟨v2,aN,n2,rfl,aO,aQ⟩:=eight (1+(j:Int)) (by omega) (by omega);have bk:∀ H',Same U H'->∃ (v9:Option V) (m:List Addr) (C:List Col),[some (.int c),some (.ref D),some (.ref A),some (.ref B),some (.int i),some (.str ys[i]),some (.ref M),some (.int pl),some (.ref E'),some (.int (1+(j:Int)))] = [some (V.int c),some (.ref D),some (.ref A),some (.ref B),some (.int i),some (.str ys[i]),some (.ref M),some (.int pl),some (.ref E'),v9]/\H' M=some (.lst (g.map V.str))/\C.Sublist (somes tabs++(((g.zip ks).drop 1).take (j+1)).map λc=>(ys[i],c.1)) /\
      ScI H D N A B ds ys (i+1) H' (ts ++ [t]) m (tabs ++ [(ys[i],g.zip ks)]) C:=λH' s' =>
      ⟨_,m,C,rfl,s' _ _ av,an.trans ((yeJ _).append (((List.take_prefix_take_left (yda j)).sublist).map _)),⟨J.sm.trans s',s' _ _ J.d4,s' _ _ J.n4,s' _ _ J.a4,s' _ _ J.b4,J.tl.same s',J.sl.same s',J.sub,J.le,J.tn,J.ok,λt' G n ca e=>by obtain ⟨ao,ah,x1,_⟩:=zds J.tl G;rw [s' _ _ x1] at e;cases e;exact J.fr t' G _ _ x1⟩⟩
     refine ea rfl (ixLc (SqL.of J.d4) (zaO (by decide) (by omega)) (ea rfl ⟨_,_,rfl,rfl,⟨a2,be⟩,zah (show 4<=100000 by decide),λq2 aa=>ea rfl (ixL (SqL.of zab) aN ⟨_,_,rfl,rfl,⟨aO,aQ⟩,_,_,rfl,rfl,(show (0:Int) < 2 by decide),rfl,ea rfl (ite2 (λz1 => ?_) (λz1 => ?_))⟩)⟩))
     ·have ae:Same U (upd U q2 (.lst [V.int 1,.int 2,.int 4,.int 8])):=Same.new aa;generalize upd U q2 (.lst [V.int 1,.int 2,.int 4,.int 8])=ag at ae ⊢;have a3:=ae _ _ J.b4;have c1:m.length=C.length:=yaC J.sl;refine ea rfl ⟨_,_,rfl,.inl (SqL.of a3),_,_,rfl,rfl,ea rfl (ite2 (λz2 => ?_) (λz2 => ?_))⟩
      ·have cc:=of_decide_eq_true z2;rw [yab] at cc;have b3:j+1 < g.length:=by omega
       refine ea rfl ⟨.inl ⟨rfl,_,SqL.of a3⟩,ea rfl (ea rfl (ea rfl (ixL (SqL.of (ae _ _ av)) (atI_strs (by omega) (by omega)) ⟨zah (show 2<=100000 by decide),λt2 cf => ?_⟩)))⟩;have e1:g.getD ((1:Int)+(j:Int)).toNat Str.empty=g[j+1]:=by
        have:((1:Int)+(j:Int)).toNat=j+1:=by omega
        rw [this,yaT,yaa b3];rfl
       rw [e1];have bo:Same ag (upd ag t2 (.tup [.str ys[i],.str g[j+1]])):=Same.new cf;have ay:(upd ag t2 (.tup [.str ys[i],.str g[j+1]])) t2=some (.tup (colV (ys[i],g[j+1]))):=zab;generalize upd ag t2 (.tup [.str ys[i],.str g[j+1]])=ak at bo ay ⊢;have O:=ae.trans bo;have am:=O _ _ J.b4;refine ⟨_,_,_,rfl,rfl,am,by rw [yab];exact zai (by omega),?_⟩;have c15:Ch1 B ak (upd ak B (.lst (m.map V.ref ++ [.ref t2]))):=λb o nb e=>(zaf nb).trans e;have bg:Same H (upd ak B (.lst (m.map V.ref ++ [.ref t2]))):=(J.sm.trans O).upd fB;have bn:(upd ak B (.lst (m.map V.ref ++ [.ref t2]))) B=some (.lst ((m ++ [t2]).map V.ref)):=by rw [zab,yak];rfl
       generalize upd ak B (.lst (m.map V.ref ++ [.ref t2]))=cG at c15 bg bn ⊢;have bY:(((g.zip ks).drop 1)[j]?)=some (g[j+1],ks[j+1]'(by omega)):=by
        rw [yem,yfr,yaa (by omega),List.getElem_zip]
       have aD:(C ++ [(ys[i],g[j+1])]).Sublist (somes tabs++(((g.zip ks).drop 1).take (j+1)).map λc=>(ys[i],c.1)):=by
        rw [yb1,bY,yak,<- yc3];exact an.append (yeJ _)
       refine ⟨_,m ++ [t2],C ++ [(ys[i],g[j+1])],rfl,c15 _ _ ci (O _ _ av),aD,bg,c15 _ _ bQ (O _ _ J.d4),c15 _ _ cl (O _ _ J.n4),c15 _ _ as (O _ _ J.a4),bn,TabsL.ch (J.tl.same O) am (by simp) c15,Paired.snoc (ColsAt.ch (J.sl.same O) am c15) (c15 _ _ (λz=>by rw [z,am] at ay;cases ay) ay),?_,by rw [yaK];simp;omega,J.tn,J.ok,λt' G n ca e=>by obtain ⟨ao,ah,x1,_⟩:=zds J.tl G;rw [c15 _ _ (λz=>by have x2:=O _ _ x1;rw [z,am] at x2;cases x2) (O _ _ x1)] at e;cases e;exact J.fr t' G _ _ x1⟩;rw [zfJ];exact aD.trans ((yeJ _).append (((ydG _ _)).map _))
      ·exact bk ag ae
     ·exact bk _ (Same.new aa)
    ·rintro σ U ⟨bL,m,C,rfl,av,an,J⟩;exact ⟨_,_,_,_,_,_,ts ++ [t],m,_,C,rfl,J⟩
  ·rintro σ H4 ⟨v4,v5,v6,v7,v8,v9,ts,ss,tabs,os,rfl,I⟩;refine p4 ?_;have aY:zaY tabs:=by
    have a6:=congrArg ycb I.tn;rw [yab,yab,yaG] at a6;refine ⟨by omega,by omega,I.ok,?_⟩;rw [I.tn,yab,yaG];exact bV
   have bU:(somes tabs).Nodup:=zeQ I.ok aY.2.2.2;have au:zfI tabs os:=⟨I.le,bU.sublist I.sub,λc hc=>somes_ok I.ok c (I.sub.subset hc)⟩;have fin:∀ (H5:Hp) (m:List Addr) (C:List Col) (r:Addr),H5 r=none->Same H H5->H5 A=some (.lst (ts.map V.ref))->H5 B=some (.lst (m.map V.ref))->TabsL [A,B] H5 ts tabs->(∀ t∈ts,∀ n ca,H5 t=some (.tup [.str n,.ref ca])->H ca=none)->ColsAt H5 m C->zfI tabs C->Q (.ref r) (upd H5 r (.tup [.ref A,.ref B])):=λH5 m C r Y s5 a5 b5 t5 b6 c5 o5=>by
    have s6:Same H5 (upd H5 r (.tup [.ref A,.ref B])):=Same.new Y;exact k r A B ts m tabs C _ (s5.trans s6) (s5.free Y) fA fB as zab (s6 _ _ a5) (s6 _ _ b5) (t5.same s6) (λt' G n ca e=>by obtain ⟨ao,ah,x1,_⟩:=zds t5 G;rw [s6 _ _ x1] at e;cases e;exact b6 t' G _ _ x1) (c5.same s6) aY o5
   refine sq1 λR9 p9 => ?_;refine ea rfl (ixLc (SqL.of I.d4) (zaO (by decide) (by omega)) ⟨_,_,rfl,rfl,(show (0:Int) < 2 by decide),rfl,ea rfl (ite2 (λz => ?_) (λz => ?_))⟩)
   ·refine ea rfl ⟨.inl ⟨rfl,_,SqL.of I.b4⟩,_,_,rfl,rfl,I.b4,p9 ?_⟩;have c5:Ch1 B H4 (upd H4 B (.lst (ss.map V.ref).reverse)):=λb o nb e=>(zaf nb).trans e;refine ea rfl (ea rfl ⟨zah (show 2<=100000 by decide),λr Y=>fin _ ss.reverse os.reverse r Y (I.sm.upd fB) (c5 _ _ as I.a4) (by rw [zab,yd2]) (TabsL.ch I.tl I.b4 (by simp) c5) (λt' G n ca e=>by obtain ⟨ao,ah,x1,_⟩:=zds I.tl G;rw [c5 _ _ (λz=>by rw [z,I.b4] at x1;cases x1) x1] at e;cases e;exact I.fr t' G _ _ x1) (ziS (ColsAt.ch I.sl I.b4 c5)) ⟨by rw [yd5];exact au.1,(List.reverse_perm os).nodup_iff.mpr au.2.1,λc hc=>au.2.2 c (ye0.mp hc)⟩⟩)
   ·exact p9 (ea rfl (ea rfl ⟨zah (show 2<=100000 by decide),λr Y=>fin _ ss os r Y I.sm I.a4 I.b4 I.tl I.fr I.sl au⟩))
def wd (a b:Nat):Str:=ydw (ydw ("aabbabza" : Str) (some (a:Int)) none) none (some (1+(b:Int)))
def univN:List Key := [.inl (-2),.inl (-1),.inl 0,.inl 1,.inl 2,.inl 3,.inl 1000000000,.inl (-1000000000),.inl 999999999]
def univW:List Key:=(ycE 6).flatMap λa=>(ycE 3).flatMap λb=>(if b < 2 then [0,1] else [0]).map λe => .inr (wd a b++repS "zzzzzz" e)
noncomputable def univ (k:Str):List Key:=if k = "number" then univN else univW
theorem zhT:univ "number" = univN:=if_pos rfl
theorem zhJ:univ "word" = univW:=if_neg (by decide +kernel)
theorem wd_len:∀ a < 6,∀ b < 3,(wd a b).length=b+1:=by decide +kernel
theorem zgF:univW.all (λk=>match k with | .inr x=>isNm x | _=>false)=true:=by decide +kernel
theorem univW_len:univW.length=30:=by decide +kernel
theorem mem_univW {a b e:Nat} (c:a < 6) (d:b < 3) (f:e<=1) (h:e=1->b < 2):(.inr (wd a b++repS "zzzzzz" e):Key)∈univW:=by
 refine ybO.mpr ⟨a,ydn.mpr c,ybO.mpr ⟨b,ydn.mpr d,yao.mpr ⟨e,?_,rfl⟩⟩⟩;by_cases z:b < 2
 ·rw [if_pos z];have:e=0\/e=1:=by omega
  rcases this with rfl | rfl <;> simp
 ·rw [if_neg z];have:e=0:=by
   rcases yb6 e 1 with y | y
   ·omega
   ·exact absurd (h (by omega)) z
  subst this;simp
noncomputable def okKd (k:Str):Prop:=k = "number"\/k = "word"
theorem zd8 {k:Str} (b:okKd k):∀ x∈univ k,isVal k (kV x)=true:=by
 rcases b with rfl | rfl
 ·rw [zhT];intro x a;rw [zbR]
  revert x
  decide
 ·rw [zhJ];intro x a;rw [zcI];have:=yaX.mp zgF x a;cases x with
  | inl i=>cases this
  | inr y=>exact this
theorem zed {k:Str} (a:okKd k):(univ k).length<=63:=by
 rcases a with rfl | rfl
 ·rw [zhT];decide
 ·rw [zhJ,univW_len];decide
theorem zel {k:Str} (a:okKd k):oneK (univ k):=by
 rcases a with rfl | rfl
 ·rw [zhT];refine .inl λk a => ?_;simp only [univN,yaJ,yb7,or_false] at a;rcases a with rfl | rfl | rfl | rfl | rfl | rfl | rfl | rfl | rfl <;> exact ⟨_,rfl⟩
 ·rw [zhJ];refine .inr λk a => ?_;have:=yaX.mp zgF k a;cases k with
  | inl i=>cases this
  | inr y=>exact ⟨y,rfl⟩
theorem univ_kind {k:Str} (a:okKd k) {x:Key} (h:x∈univ k):zay [decide (k=("number" : Str))] [x]=true:=by
 have v:=zd8 a x h;rcases a with rfl | rfl
 ·rw [zbR] at v;cases x with
  | inl i=>rfl
  | inr y=>cases v
 ·rw [zcI] at v;cases x with
  | inl i=>cases v
  | inr y =>
   have e:decide (("word" : Str)=("number" : Str))=false:=by decide +kernel
   rw [e];rfl
def RowK (cs:List Col) (ks:List Key):Prop:=Paired (λc k=>k∈univ c.2) cs ks
theorem RowK.kinds:∀ {cs:List Col} {ks:List Key},(∀ c∈cs,okCol c)->RowK cs ks->zay (kindsOf cs) ks=true
 | _,_,_,.nil=>rfl
 | c :: cs,k :: ks,h,.cons a t=>by
  have h1:=univ_kind (h c yax).2 a;have h2:=RowK.kinds (λq b=>h q (yal _ b)) t;show zay (decide (c.2=("number" : Str)) :: kindsOf cs) (k :: ks)=true;cases e:decide (c.2=("number" : Str)) <;> rw [e] at h1 <;> cases k <;> first | exact h2 | cases h1
def zfU:Sp:=λvs H Q _=>∃ (k:Str) (n:Int),vs = [.str k,.int n]/\okKd k/\0<=n/\n < 2147483647/\∀ (x:Key) (H':Hp),Same H H'->x∈univ k->Q (kV x) H'
def zhj:Sp:=λvs H Q _=>∃ (t nl ca:Addr) (qs:List Addr) (d:Tab) (ns:List Int),vs = [.ref t,.ref nl]/\H t=some (.tup [.str d.1,.ref ca])/\H ca=some (.lst (qs.map V.ref))/\ColsAt H qs d.2/\okTab d.1 d.2/\H nl=some (.lst (ns.map V.int))/\d.2.length<=ns.length/\Nng ns /\
 ∀ (r:Addr) (ks:List Key) (H':Hp),Same H H'->H r=none->H' r=some (.tup (ks.map kV))->RowK d.2 ks->Q (.ref r) H'
theorem zf5 (T:Txt K mg):FnOk P w K mg base CX0 1 T._law_value.f T._law_value.fd ["_law_kind", "_law_number"] zfU:=by
 refine T._law_value.fn.ok sc__law_value (λvs H Q E h => ?_) (λt A outer s H vs Q E L h => ?_)
 ·obtain ⟨kd,d,rfl,_⟩:=h;rfl
 ·obtain ⟨kd,n,rfl,r,J,h1,k⟩:=h;refine ⟨_,((zad (ps_if (zaz op_eq (pv 0) zbE (zaD _)) (zad (ps_if (zaz op_eq (pe_op zaL (pv 1) zac) zac (zaD _)) (zag (zao (pe_ix (zam (K:=K) rfl) (za3 (zaa (pe_op zfO zac zac) (zaa (pe_op zgy zac (pe_op zfO zac zac)) (zaa (pe_op zgy (pe_op zfO zac zac) zac) zae)))) (pe_op zaL (pe_op zaR (pv 1) zac) zac) (λ_ _=>rfl)))) zau)
   (zag (zao (pe_op zgy (pe_op zaL (pe_op zaR (pv 1) zac) zac) zac)))) zau)
   (zad (zas (i:=2) sc__law_value.nd rfl (yaL rfl) (zbq zhY (zbq zhY zbE (zbf (pe_op zaL (pe_op zaR (pv 1) zac) zac)) zdx) zdx (zbf (pe_op zbr zac (pe_op zaL (pv 1) zac)))))
   (zag (zao (pe_op zcD (pv 2) (pe_op zfP zbE (zaQ zeZ (by rfl) T.b_int zhC (zaa (zdY (zby op_eq (pe_op zaL (pe_op zaR (pv 1) zac) zac) zac (zaD _)) (zcR (zby op_lt (zap zbM (by rfl) T.b_len za9 (zaa (pv 2) zae)) zac (zaD _)))) zae))))))))),?_⟩
  refine sq1 λM p1 => ?_;refine ea rfl ⟨rfl,ea rfl ?_⟩;have l:=md0 (n / 16) (show (0:Int) < 6 by decide);have B:=md1 (n / 16) (show (0:Int) < 6 by decide);have m:=md0 n (show (0:Int) < 3 by decide);have I:=md1 n (show (0:Int) < 3 by decide);rcases r with rfl | rfl
  ·refine ite2 (λ_ => ?_) (λz=>absurd (decide_eq_true rfl) z);rw [zhT] at k;refine sq1 λR2 o => ?_;refine ea rfl ⟨_,_,rfl,rfl,(show (0:Int) < 16 by decide),rfl,ea rfl (ite2 (λz => ?_) (λz => ?_))⟩
   ·obtain ⟨v,g,x,rfl,D⟩:=zeT (xs := [V.int (10 ^ (9:Int).toNat),.int (0 - 10 ^ (9:Int).toNat),.int (10 ^ (9:Int).toNat - 1)]) (i:=n / 16 % 3) (P:=λv=>∃ x:Key,v=kV x/\x∈univN) (by
     intro v g;simp only [yaJ,yb7,or_false] at g;rcases g with rfl | rfl | rfl
     ·exact ⟨.inl 1000000000,rfl,by simp [univN]⟩
     ·exact ⟨.inl (-1000000000),rfl,by simp [univN]⟩
     ·exact ⟨.inl 999999999,rfl,by simp [univN]⟩) (md0 _ (by decide)) (md1 _ (by decide))
    refine ⟨10,9,rfl,rfl,⟨by decide,by decide,by decide⟩,10,9,rfl,rfl,⟨by decide,by decide,by decide⟩,_,_,rfl,rfl,10,9,rfl,rfl,⟨by decide,by decide,by decide⟩,_,_,rfl,rfl,zah (show 3<=100000 by decide),λp F=>ea rfl ⟨_,_,rfl,rfl,⟨(show (0:Int) < 16 by decide),(show (16:Int) < 2 ^ 64 by decide)⟩,_,_,rfl,rfl,(show (0:Int) < 3 by decide),ixL (SqL.of zab) g (k x _ (Same.new F) D)⟩⟩
   ·refine o ?_;refine ea rfl ⟨_,_,rfl,rfl,⟨(show (0:Int) < 16 by decide),(show (16:Int) < 2 ^ 64 by decide)⟩,_,_,rfl,rfl,(show (0:Int) < 6 by decide),_,_,rfl,rfl,k (.inl (n / 16 % 6 - 2)) H (Same.refl H) ?_⟩;have:n / 16 % 6=0\/n / 16 % 6=1\/n / 16 % 6=2\/n / 16 % 6=3\/n / 16 % 6=4\/n / 16 % 6=5:=by omega
    rcases this with e | e | e | e | e | e <;> rw [e] <;> simp [univN]
  ·refine ite2 (λz=>absurd z (by decide +kernel)) (λ_=>p1 ?_);rw [zhJ] at k;have bl:("aabbabza" : Str).length=8:=by decide +kernel
   refine sq1 λR2 o => ?_;refine ea rfl ⟨_,_,rfl,rfl,⟨(show (0:Int) < 16 by decide),(show (16:Int) < 2 ^ 64 by decide)⟩,_,_,rfl,rfl,(show (0:Int) < 6 by decide),_,rfl,_,rfl,zah (by rw [bl];decide),ea rfl ⟨_,_,rfl,rfl,(show (0:Int) < 3 by decide),_,_,rfl,rfl,_,rfl,_,rfl,zah (yaY (yec _ _ _) (by rw [bl];decide)),o ?_⟩⟩;have G:ydw (ydw ("aabbabza" : Str) (some (n / 16 % 6)) none) none (some (1+n % 3))=wd (n / 16 % 6).toNat (n % 3).toNat:=by
    unfold wd;rw [yfi l,yfi m]
   rw [G];have u:=wd_len (n / 16 % 6).toNat (by omega) (n % 3).toNat (by omega);have b:∀ c:Bool,(c=true->(wd (n / 16 % 6).toNat (n % 3).toNat).length < 3)->(.inr (wd (n / 16 % 6).toNat (n % 3).toNat++repS "zzzzzz" (if c=true then (1:Int) else 0).toNat):Key)∈univW:=λc hc=>by
    refine mem_univW (by omega) (by omega) (by cases c <;> decide) λe => ?_;cases c with
    | true=>have:=hc rfl;omega
    | false=>cases e
   generalize wd (n / 16 % 6).toNat (n % 3).toNat=W at u b ⊢;have q:("zzzzzz" : Str).length=6:=by decide +kernel
   have C:∀ c:Bool,(repS "zzzzzz" (if c=true then (1:Int) else 0).toNat).length<=6:=λc=>by cases c <;> decide +kernel
   have fin:∀ c:Bool,(c=true->W.length < 3)->∃ z a,V.str "zzzzzz" = .str z/\V.int (if c=true then 1 else 0) = .int a/\0<=a/\z.length<=1000/\a<=1000/\∃ i j,V.str W = .str i/\V.str (repS z a.toNat) = .str j/\i.length+j.length<=yaO/\Q (.str (i++j)) H:=λc hc =>
    ⟨_,_,rfl,rfl,by cases c <;> decide,by rw [q];decide,by cases c <;> decide,_,_,rfl,rfl,zah (by have:=C c;omega),k _ H (Same.refl H) (b c hc)⟩
   refine ea rfl (ea rfl ⟨_,_,rfl,rfl,⟨(show (0:Int) < 96 by decide),(show (96:Int) < 2 ^ 64 by decide)⟩,_,_,rfl,rfl,(show (0:Int) < 8 by decide),rfl,ea rfl (ite2 (λz => ?_) (λz => ?_))⟩)
   ·exact ea rfl ⟨_,rfl,zah (by omega),_,_,rfl,rfl,.inr ⟨_,rfl,fin _ λy=>by have:=of_decide_eq_true y;omega⟩⟩
   ·exact .inr ⟨_,rfl,fin false (λy=>nomatch y)⟩
theorem zeR (T:Txt K mg):FnOk P w K mg base CX0 2 T._law_row.f T._law_row.fd ["_law_table", "_law_numbers"] zhj:=by
 refine T._law_row.fn.ok zhq (λvs H Q E h => ?_) (λaa A outer s H vs Q E U h => ?_)
 ·obtain ⟨t,L,F,e,d,ns,rfl,_⟩:=h;rfl
 ·obtain ⟨t,L,F,e,d,ns,rfl,ht,c,Z,ok,B,hl,hN,q⟩:=h;have ae:=U.units0;have ql:e.length=d.2.length:=yaC Z;refine ⟨_,((zag (zao (zaQ (zbY (K:=K) rfl) (by rfl) T.b_tuple zcF (zaa (za7 (N := ["_law_column", "_law_number"]) (own:=2) (caps := []) rfl (by kernel_rfl) (by kernel_rfl) (pi_zipL (K:=K) rfl rfl T.b_zip (zaa (pe_ix (zak (K:=K) rfl) (pv 0) zac (λ_ _=>rfl)) (zaa (pv 1) zae))) (λ_ _ _ _ _=>(zbe (K:=K) (n:=2) rfl rfl (zat (zal (i:=0) (show List.Nodup (["_law_column", "_law_number"]:List Str) by decide +kernel) rfl (yaL rfl)) (zat (zal (i:=1) (show List.Nodup (["_law_column", "_law_number"]:List Str) by decide +kernel) rfl (yaL rfl)) zbj)))) (λ_ _ _ _ _=>zaW) (λ_ _ _ _ _=>(zaq (zf5 T) (U.mono (by decide)) rfl (zaa (pe_ix (zak (K:=K) rfl) (pv 0) zac (λ_ _=>rfl)) (zaa (pv 1) zae))))) zae))))),?_⟩;refine ea rfl (ixTc (v := .ref F) (SqT.of ht) rfl (ea rfl ⟨F,L,rfl,⟨_,SqL.of c⟩,⟨_,SqL.of B⟩,λD R => ?_⟩));refine zaH (J:=ItzL K F L) e.length (λj l b=>∃ (I M:Option V) (ks:List Key),l = [I,M]/\Same H b/\b D=some (.lst (ks.map kV))/\RowK (d.2.take j) ks)
   ?_ (λj l b C ⟨_,_,_,_,a,_⟩=>⟨_,_,_,_,SqL.of (a _ _ c),SqL.of (a _ _ B),by rw [yaf,yaa C];rfl,by rw [yaf,yaa (by omega)];rfl⟩) (by rintro l b ⟨_,_,_,_,a,_⟩;exact ⟨_,SqL.of (a _ _ c),by rw [yab],_,SqL.of (a _ _ B)⟩) ?_ ?_
  ·exact ⟨none,none,[],rfl,Same.new R,zab,.nil⟩
  ·rintro j l b y W C ⟨I,M,ks,rfl,a,hd,p⟩ ⟨u,x,y',hu,rfl,rfl,k,G⟩;have k:=k _ (SqL.of (a _ _ c));have G:=G _ (SqL.of (a _ _ B));have m:j < ns.length:=by omega
   have g:j < d.2.length:=by omega
   rw [yaf,yaa C] at k;rw [yaf,yaa m] at G;cases k;cases G;have z:Same b (upd b u (.tup [.ref e[j],.int ns[j]])):=Same.new hu;have O:(upd b u (.tup [.ref e[j],.int ns[j]])) u=some (.tup [.ref e[j],.int ns[j]]):=zab;generalize upd b u (.tup [.ref e[j],.int ns[j]])=W at z O ⊢;have cq:W e[j]=some (.tup (colV d.2[j])):=z _ _ (a _ _ (Paired.at Z j C g));have kl:ks.length=j:=by
    have:=yaC p;rw [yaA] at this;omega
   have Y:=hN _ (yam m);refine ⟨u,ea rfl ⟨SqT.of O,rfl,_,ea rfl ⟨_,ea rfl ⟨rfl,?_⟩⟩⟩⟩;refine ea rfl (ixTc (v := .str d.2[j].2) (SqT.of cq) rfl (ea rfl ⟨_,_,rfl,(ok.2.2.2.1 _ (yam g)).2,Y.1,Y.2,λx H5 S k=>⟨_,S _ _ (z _ _ hd),by rw [yab];exact zai (by have:=ok.2.2.1;omega),?_⟩⟩));refine ⟨_,_,ks ++ [x],rfl,(a.trans (z.trans S)).upd R,by rw [zab,yak];rfl,?_⟩;rw [yb1,yaa g];exact Paired.snoc p k
  ·rintro l b ⟨I,M,ks,rfl,a,hd,p⟩;rw [ql,yaG] at p;exact ⟨_,_,rfl,.inl ⟨SqL.of hd,λr o=>q r ks _ (a.trans (Same.new o)) (a.free o) zab p⟩⟩
structure Md where
 a:Addr
 f:Str->Addr
 rows:Str->List (Key×Addr)
def lk (l:List (Key×Addr)) (k:Key):Option Addr:=(l.find? λp=>decide (p.1=k)).map (·.2)
def putR (l:List (Key×Addr)) (k:Key) (r:Addr):List (Key×Addr):=if (l.any λp=>decide (p.1=k))=true then l.map (λp=>if p.1=k then (p.1,r) else p) else l ++ [(k,r)]
def dropR (l:List (Key×Addr)) (k:Key):List (Key×Addr):=l.filter λp=>decide (p.1≠k)
theorem zbc (l:List (Key×Addr)) (k:Key):valV (ksD l) k=(lk l k).map V.ref:=by
 induction l with
 | nil=>rfl
 | cons p r a =>
  by_cases e:p.1=k
  ·simp [valV,ksD,lk,e]
  ·unfold valV ksD lk at a ⊢;rw [yaw,ybn (by simpa using e),ybn (by simpa using e)];exact a
theorem zd9 (l:List (Key×Addr)) (k:Key) (r:Addr):putK (ksD l) k (.ref r)=ksD (putR l k r):=by
 unfold putK putR ksD;rw [List.any_map];have e:((λkv:Key×V=>decide (kv.1=k)) ∘ λp:Key×Addr=>(p.1,V.ref p.2))=λp=>decide (p.1=k):=rfl;rw [e];split
 ·rw [yaU,yaU];refine yd8 λp _ => ?_;simp only [Function.comp];split <;> rfl
 ·rw [yak];rfl
theorem ksD_dropR (l:List (Key×Addr)) (k:Key):dropK (ksD l) k=ksD (dropR l k):=by
 unfold dropK dropR ksD;rw [List.filter_map];rfl
theorem map_inj {a b:Option Addr} (h:a.map V.ref=b.map V.ref):a=b:=by
 cases a with
 | none =>
  cases b with
  | none=>rfl
  | some y=>cases h
 | some x =>
  cases b with
  | none=>cases h
  | some y=>injection h with h;injection h with h;rw [h]
theorem lk_put (l:List (Key×Addr)) (k j:Key) (r:Addr):lk (putR l k r) j=if j=k then some r else lk l j:=by
 apply map_inj;rw [<- zbc,<- zd9,zh2];split
 ·rfl
 ·exact zbc l j
theorem lk_drop (l:List (Key×Addr)) (k j:Key):lk (dropR l k) j=if j=k then none else lk l j:=by
 induction l with
 | nil=>simp [lk,dropR]
 | cons p r a =>
  unfold dropR lk at a ⊢;by_cases e:p.1=k
  ·rw [ydf (by simpa using e),a];by_cases z:j=k
   ·simp [z]
   ·have:¬ p.1=j:=λy=>z (y.symm.trans e);rw [if_neg z,if_neg z,ybn (by simpa using this)]
  ·rw [ydg (by simpa using e)];by_cases y:p.1=j
   ·have z:¬ j=k:=λq=>e (y.trans q);simp [y,z]
   ·rw [ybn (by simpa using y),a];by_cases z:j=k
    ·simp [z]
    ·rw [if_neg z,if_neg z,ybn (by simpa using y)]
theorem zeH {l:List (Key×Addr)} {k:Key} {r:Addr} (h:lk l k=some r):(k,r)∈l:=by
 have:=zbc l k;rw [h] at this;obtain ⟨q,e,m⟩:=zem this;cases e;exact m
theorem lk_of {l:List (Key×Addr)} {k:Key} {r:Addr} (a:(l.map (·.1)).Nodup) (h:(k,r)∈l):lk l k=some r:=by
 apply map_inj;rw [<- zbc];exact ksD_mem a h
theorem lk_none {l:List (Key×Addr)} {k:Key}:lk l k=none↔k∉l.map (·.1):=by
 constructor
 ·intro h;exact zd7 (by rw [zbc,h];rfl)
 ·intro h;cases e:lk l k with
  | none=>rfl
  | some r=>exact absurd (yao.mpr ⟨_,zeH e,rfl⟩) h
theorem zcK (l:List (Key×Addr)):(ksD l).map (·.1)=l.map (·.1):=by
 unfold ksD;rw [yaU];rfl
theorem zfQ {l:List (Key×Addr)} {k:Key} {r:Addr} (a:(l.map (·.1)).Nodup):((putR l k r).map (·.1)).Nodup:=by
 rw [<- zcK,<- zd9];exact zgC (by rw [zcK];exact a)
theorem zho {l:List (Key×Addr)} {k:Key} (a:(l.map (·.1)).Nodup):((dropR l k).map (·.1)).Nodup:=a.sublist ((yfg).map _)
theorem zif {l:List (Key×Addr)} {k:Key} {r:Addr} {p:Key×Addr} (h:p∈putR l k r):p=(k,r)\/p∈l:=by
 unfold putR at h;split at h
 ·obtain ⟨q,a,e⟩:=yao.mp h;split at e
  ·rename_i z;exact .inl (by rw [<- e,z])
  ·exact .inr (e ▸ a)
 ·rcases yau.mp h with z | z
  ·exact .inr z
  ·exact .inl (yai.mp z)
def RowAt (H:Hp) (cs:List Col) (k:Key) (r:Addr):Prop:=∃ ks,H r=some (.tup (ks.map kV))/\RowK cs ks/\ks.head? = some k
theorem RowAt.keep {H H':Hp} {cs:List Col} {k:Key} {r:Addr} (h:RowAt H cs k r) (d:∀ b xs,H b=some (.tup xs)->H' b=some (.tup xs)):RowAt H' cs k r :=
 let ⟨ks,a,b,c⟩:=h
 ⟨ks,d _ _ a,b,c⟩
theorem RowAt.univ {H:Hp} {t:Tab} {k:Key} {r:Addr} (h:RowAt H t.2 k r):k∈univ (keyK t):=by
 obtain ⟨ks,_,b,c⟩:=h;unfold RowK at b;unfold keyK;generalize t.2=cs at b ⊢;cases b with
 | nil=>cases c
 | cons a _ =>
  cases c;exact a
structure MdAt (H:Hp) (names:List Str) (d:Md):Prop where
 out:H d.a=some (.dK (nmD names d.f))
 ins:∀ nm∈names,H (d.f nm)=some (.dK (ksD (d.rows nm)))
 ne:∀ nm∈names,d.f nm≠d.a
 inj:∀ nm∈names,∀ nm'∈names,d.f nm=d.f nm'->nm=nm'
def MdR (H:Hp) (tabs:List Tab) (d:Md):Prop:=∀ t∈tabs,((d.rows t.1).map (·.1)).Nodup/\∀ p∈d.rows t.1,RowAt H t.2 p.1 p.2
structure MdOk (H:Hp) (tabs:List Tab) (d:Md):Prop where
 at_:MdAt H (tabs.map (·.1)) d
 rows:MdR H tabs d
def MdNew (H:Hp) (names:List Str) (d:Md):Prop:=H d.a=none/\∀ nm∈names,H (d.f nm)=none
theorem MdR.keep {H H':Hp} {tabs:List Tab} {d:Md} (h:MdR H tabs d) (e:∀ b xs,H b=some (.tup xs)->H' b=some (.tup xs)):MdR H' tabs d:=λt a=>⟨(h t a).1,λp c=>((h t a).2 p c).keep e⟩
theorem MdOk.keep {H H':Hp} {tabs:List Tab} {d:Md} (h:MdOk H tabs d) (e:∀ b xs,H b=some (.tup xs)->H' b=some (.tup xs)) (g:∀ o,H d.a=some o->H' d.a=some o) (i:∀ nm∈tabs.map (·.1),∀ o,H (d.f nm)=some o->H' (d.f nm)=some o):MdOk H' tabs d :=
 ⟨⟨g _ h.at_.out,λnm c=>i nm c _ (h.at_.ins nm c),h.at_.ne,h.at_.inj⟩,h.rows.keep e⟩
theorem MdOk.same {H H':Hp} {tabs:List Tab} {d:Md} (h:MdOk H tabs d) (s:Same H H'):MdOk H' tabs d:=h.keep (λ_ _=>s _ _) (λ_=>s _ _) λ_ _ _=>s _ _
theorem MdR.len {H:Hp} {tabs:List Tab} {d:Md} (h:MdR H tabs d) (ok:∀ t∈tabs,okTab t.1 t.2) {t:Tab} (a:t∈tabs):(d.rows t.1).length<=63:=by
 have kd:okKd (keyK t):=by
  obtain ⟨_,l1,_,b,_⟩:=ok t a;unfold keyK;obtain ⟨c,r,e⟩:=yfl (λz:t.2 = []=>by rw [z] at l1;cases l1);rw [e];exact (b c (by rw [e];exact yax)).2
 have:=(h t a).1.length_le_of_subset (l₂:=univ (keyK t)) λk g=>by
  obtain ⟨p,f,e⟩:=yao.mp g;rw [<- e];exact ((h t a).2 p f).univ
 rw [yab] at this;exact yaY this (zed kd)
theorem zhd {xs:List V} {i j:Nat} (h:i<=j) (h2:j<=xs.length):cutV xs (some (i:Int)) (some (j:Int))=(xs.drop i).take (j - i):=by
 unfold cutV;rw [HT.sIx_nat,HT.sIx_nat,Nat.min_eq_left h2,Nat.min_eq_left (yaY h h2)]
theorem cut_drop {xs:List V} {k:Nat} (h:k<=xs.length):cutV xs (some (k:Int)) none=xs.drop k:=by
 unfold cutV;have e2:HT.sIx xs.length xs.length none=xs.length:=rfl;rw [HT.sIx_nat,e2,Nat.min_eq_left h,ydr (by rw [ybk];exact yaj _)]
theorem zaw {tabs:List Tab} {t:Tab} (h:t∈tabs):t.1∈tabs.map (·.1):=yao.mpr ⟨t,h,rfl⟩
theorem zej {tabs:List Tab} {t u:Tab} (a:(tabs.map (·.1)).Nodup) (b:t∈tabs) (f:u∈tabs) (e:t.1=u.1):t=u:=by
 induction tabs with
 | nil=>cases b
 | cons d r c =>
  rw [yaw,ybm] at a;rcases yaJ.mp b with rfl | h1 <;> rcases yaJ.mp f with rfl | h2
  ·rfl
  ·exact absurd (e ▸ zaw h2) a.1
  ·exact absurd (e ▸ zaw h1) a.1
  ·exact c a.2 h1 h2
def Md.set (d:Md) (nm:Str) (l:List (Key×Addr)):Md:={ d with rows:=λn=>if n=nm then l else d.rows n }
theorem MdOk.set {H:Hp} {tabs:List Tab} {d:Md} {t:Tab} {l:List (Key×Addr)} (h:MdOk H tabs d) (n:(tabs.map (·.1)).Nodup) (a:t∈tabs) (k:(l.map (·.1)).Nodup) (m:∀ p∈l,RowAt H t.2 p.1 p.2) :
  MdOk (upd H (d.f t.1) (.dK (ksD l))) tabs (d.set t.1 l):=by
 have o:=h.at_.ins t.1 (zaw a);have i:∀ b xs,H b=some (.tup xs)->(upd H (d.f t.1) (.dK (ksD l))) b=some (.tup xs):=λb xs e=>(zaf (λz=>by rw [z,o] at e;cases e)).trans e;refine ⟨⟨(zaf (λz=>h.at_.ne t.1 (zaw a) z.symm)).trans h.at_.out,λnm j => ?_,h.at_.ne,h.at_.inj⟩,λu g => ?_⟩
 ·show (upd H (d.f t.1) (.dK (ksD l))) (d.f nm)=some (.dK (ksD (if nm=t.1 then l else d.rows nm)));by_cases e:nm=t.1
  ·rw [if_pos e,e,zab]
  ·rw [if_neg e,zaf (λz=>e (h.at_.inj nm j t.1 (zaw a) z))];exact h.at_.ins nm j
 ·show ((if u.1=t.1 then l else d.rows u.1).map (·.1)).Nodup/\∀ p∈(if u.1=t.1 then l else d.rows u.1),_;by_cases e:u.1=t.1
  ·rw [if_pos e,zej n g a e];exact ⟨k,λp c=>(m p c).keep i⟩
  ·rw [if_neg e];exact ⟨(h.rows u g).1,λp c=>((h.rows u g).2 p c).keep i⟩
def Md.add (d:Md) (nm:Str) (p:Addr) (l:List (Key×Addr)):Md:={ d with f:=λn=>if n=nm then p else d.f n,rows:=λn=>if n=nm then l else d.rows n }
theorem MdOk.add {H:Hp} {tabs:List Tab} {d:Md} {t:Tab} {p:Addr} {l:List (Key×Addr)} (h:MdOk H tabs d) (C:t.1∉tabs.map (·.1)) (k:H p=none) (v:(l.map (·.1)).Nodup) (A:∀ q∈l,RowAt H t.2 q.1 q.2) :
  MdOk (upd (upd H p (.dK (ksD l))) d.a (.dK (nmD ((tabs ++ [t]).map (·.1)) (d.add t.1 p l).f))) (tabs ++ [t]) (d.add t.1 p l):=by
 have s:d.a≠p:=λz=>by rw [<- z,h.at_.out] at k;cases k
 have m:∀ nm∈tabs.map (·.1),d.f nm≠p:=λnm g z=>by rw [<- z,h.at_.ins nm g] at k;cases k
 have r:∀ b xs,H b=some (.tup xs)->(upd (upd H p (.dK (ksD l))) d.a (.dK (nmD ((tabs ++ [t]).map (·.1)) (d.add t.1 p l).f))) b=some (.tup xs):=λb xs e=>by
  rw [zaf (λz=>by rw [z,h.at_.out] at e;cases e),zaf (λz=>by rw [z,k] at e;cases e)];exact e
 have i:∀ nm∈tabs.map (·.1),nm≠t.1:=λnm g z=>C (z ▸ g);have cs:∀ nm∈(tabs ++ [t]).map (·.1),nm∈tabs.map (·.1)\/nm=t.1:=λnm g=>by
  rw [yak] at g;rcases yau.mp g with z | z
  ·exact .inl z
  ·exact .inr (yai.mp z)
 refine ⟨⟨zab,λnm g => ?_,λnm g => ?_,λnm g c o e => ?_⟩,λu B => ?_⟩
 ·show (upd _ d.a _) (if nm=t.1 then p else d.f nm)=some (.dK (ksD (if nm=t.1 then l else d.rows nm)));rcases cs nm g with z | z
  ·rw [if_neg (i nm z),if_neg (i nm z),zaf (h.at_.ne nm z),zaf (m nm z)];exact h.at_.ins nm z
  ·rw [if_pos z,if_pos z,zaf (ybt s),zab]
 ·show (if nm=t.1 then p else d.f nm)≠d.a;rcases cs nm g with z | z
  ·rw [if_neg (i nm z)];exact h.at_.ne nm z
  ·rw [if_pos z];exact ybt s
 ·have j:(if nm=t.1 then p else d.f nm)=(if c=t.1 then p else d.f c):=e;rcases cs nm g with z | z <;> rcases cs c o with y | y
  ·rw [if_neg (i nm z),if_neg (i c y)] at j;exact h.at_.inj nm z c y j
  ·rw [if_neg (i nm z),if_pos y] at j;exact absurd j (m nm z)
  ·rw [if_pos z,if_neg (i c y)] at j;exact absurd j.symm (m c y)
  ·rw [z,y]
 ·show ((if u.1=t.1 then l else d.rows u.1).map (·.1)).Nodup/\∀ q∈(if u.1=t.1 then l else d.rows u.1),_;rcases yau.mp B with z | z
  ·rw [if_neg (i u.1 (zaw z))];exact ⟨(h.rows u z).1,λq n=>((h.rows u z).2 q n).keep r⟩
  ·rw [yai.mp z,if_pos rfl];exact ⟨v,λq n=>(A q n).keep r⟩
theorem zcC {H:Hp} {a:Addr} {names:List Str} {f:Str->Addr} {nm:Str} (e:Rd H a (.dK (nmD names f))) (h:nm∈names):DGet H a (.str nm) (some (.ref (f nm))) := .inl ⟨_,.inr nm,e,rfl,(zeJ h).symm⟩
def zgc:Sp:=λvs H Q _=>∃ (tt tl ol:Addr) (c:Int) (ts ex:List Addr) (tabs:List Tab),vs = [.ref tt,.int c]/\H tt=some (.tup [.ref tl,.ref ol])/\H tl=some (.lst (ts.map V.ref))/\TabsL ex H ts tabs/\zaY tabs /\
 ∀ (d:Md) (H':Hp),Same H H'->MdNew H (tabs.map (·.1)) d->MdOk H' tabs d->Q (.ref d.a) H'
theorem zg2 {ks:List Key} {k:Key} (h:ks.head? = some k):atI (ks.map kV) 0=some (kV k):=by
 cases ks with
 | nil=>cases h
 | cons a r=>cases h;exact at0 _ _
theorem RowK.head {d:Tab} {ks:List Key} (ok:okTab d.1 d.2) (h:RowK d.2 ks):∃ k,ks.head? = some k:=by
 have l:=yaC h;cases ks with
 | nil=>have:=ok.2.1;rw [yek] at l;omega
 | cons a r=>exact ⟨a,rfl⟩
theorem zf2 (T:Txt K mg):FnOk P w K mg base CX0 3 T._law_first.f T._law_first.fd ["_law_told", "_law_cell"] zgc:=by
 refine T._law_first.fn.ok sc__law_first (λvs H Q E h => ?_) (λa5 A outer s H vs Q E hr h => ?_)
 ·obtain ⟨tt,tl,ol,c,ts,ex,tabs,rfl,_⟩:=h;rfl
 ·obtain ⟨tt,tl,ol,c,ts,ex,tabs,rfl,aC,am,hT,ok,q⟩:=h;have Y:=hu_of hr;have a6:=hr.units0;have af:ts.length=tabs.length:=yaC hT;refine ⟨_,((zad (zas (i:=2) sc__law_first.nd rfl (yaL rfl) zbo)
   (zad (zaV yaQ rfl (zg4 (K:=K) rfl rfl T.b_enumerate (zaa (pe_ix (zak (K:=K) rfl) (pv 0) zac (λ_ _=>rfl)) zae)) (zbe (K:=K) (n:=2) rfl rfl (zat ((zal (i:=3) sc__law_first.nd rfl (yaL rfl))) (zat ((zal (i:=4) sc__law_first.nd rfl (yaL rfl))) zbj))) (zad (zas (i:=5) sc__law_first.nd rfl (yaL rfl) (zaq (za4 T) (hr.mono (by decide)) rfl (zaa (pe_op zbr (pv 1) (pv 3)) (zaa zac zae))))
   (zad (zbu Y (pv 2) (pe_ix (zak (K:=K) rfl) (pv 4) zac (λ_ _=>rfl)) zbo rfl)
   (zag (zaV yaQ rfl (zbd rfl T.b_range (zaa (pe_op zaL (pe_ix (zam (K:=K) rfl) (pv 5) zac (λ_ _=>rfl)) zac) zae)) (zal (i:=6) sc__law_first.nd rfl (yaL rfl)) (zad (zas (i:=7) sc__law_first.nd rfl (yaL rfl) (zaq (zeR T) (hr.mono (by decide)) rfl (zaa (pv 4) (zaa (zbq (zek (K:=K) rfl) (pv 5) (zbf (pe_op zbZ zac (pv 6))) (zbf (pe_op zbr (pe_op zbZ zac (pv 6)) zac))) zae))))
   (zag (zbu Y (zaM Y (pv 2) (pe_ix (zak (K:=K) rfl) (pv 4) zac (λ_ _=>rfl)) (λ_ _=>rfl)) (pe_ix (zak (K:=K) rfl) (pv 7) zac (λ_ _=>rfl)) (pv 7) rfl))))))))
   (zag (zao (pv 2)))))),?_⟩
  refine sq1 λR1 p1 => ?_;refine λM hM=>p1 ?_;refine sq1 λR2 p2 => ?_;have s1:Same H (upd H M (.dK [])):=Same.new hM;have M1:(upd H M (.dK [])) M=some (.dK []):=zab;generalize upd H M (.dK [])=H1 at s1 M1 ⊢;refine ea rfl (ixTc (v := .ref tl) (SqT.of (s1 _ _ aC)) rfl ⟨tl,rfl,⟨_,SqL.of (s1 _ _ am)⟩,?_⟩);refine zia (K:=K) (a:=tl) (xs:=ts.map V.ref) (λi J F=>∃ (v3 v4 v5 v6 v7:Option V) (d:Md),J = [some (.ref tt),some (.int c),some (.ref M),v3,v4,v5,v6,v7]/\Same H F/\d.a=M/\MdNew H ((tabs.take i).map (·.1)) d/\MdOk F (tabs.take i) d)
   ⟨none,none,none,none,none,⟨M,λ_=>M,λ_ => []⟩,rfl,s1,rfl,⟨hM,λ_ z=>nomatch z⟩,⟨M1,(λ_ z=>nomatch z),(λ_ z=>nomatch z),(λ_ z=>nomatch z)⟩,λ_ z=>nomatch z⟩ (by rintro i J F _ ⟨_,_,_,_,_,_,_,Z,_⟩;exact SqL.of (Z _ _ am)) ?_ ?_
  ·rintro i x u J F hx ⟨v3,v4,v5,v6,v7,d,rfl,Z,rfl,new,I⟩ hu;have hi:i < ts.length:=by
    have:=(List.getElem?_eq_some_iff.1 hx).1
    rwa [yab] at this
   have S:i < tabs.length:=by omega
   rw [yaf,yaa hi] at hx;cases hx;obtain ⟨ca,qs,ht,aB,hC,_⟩:=Paired.at hT i hi S;have L:=ok.2.2.1 _ (yam S);have tk:tabs.take (i+1)=tabs.take i ++ [tabs[i]]:=by rw [yb1,yaa S];rfl
   have O:((tabs.take (i+1)).map (·.1)).Nodup:=ok.2.2.2.sublist ((ydG _ _).map _);have B:tabs[i].1∉(tabs.take i).map (·.1):=by
    rw [tk,yak,ybq] at O;exact λz=>O.2.2 _ z _ (yai.mpr rfl) rfl
   refine ⟨u,ea rfl ⟨SqT.of zab,rfl,_,ea rfl ⟨_,ea rfl ⟨rfl,?_⟩⟩⟩⟩;have G:Same F (upd F u (.tup [.int i,.ref ts[i]])):=Same.new hu;generalize upd F u (.tup [.int i,.ref ts[i]])=H5 at G ⊢;refine sq1 λR3 p3 => ?_;refine ea rfl (ea rfl ⟨_,_,rfl,rfl,_,_,rfl,by decide,by decide,λN ds H6 s6 hN ag hl aJ=>p3 ?_⟩);refine sq1 λR4 p4 => ?_;refine λp e=>ea rfl (ea rfl (ixTc (xs := [.str tabs[i].1,.ref ca]) (v := .str tabs[i].1) (SqT.of ?_) rfl ⟨d.a,_,rfl,DPut.k (k := .inr tabs[i].1) (kvs:=nmD ((tabs.take i).map (·.1)) d.f) ?_ ?_,p4 ?_⟩))
   ·rw [zaf (λz=>by rw [<- z,s6 _ _ (G _ _ (Z _ _ ht))] at e;cases e)];exact s6 _ _ (G _ _ (Z _ _ ht))
   ·rw [zaf (λz=>by rw [<- z,s6 _ _ (G _ _ I.at_.out)] at e;cases e)];exact s6 _ _ (G _ _ I.at_.out)
   ·unfold nmD;rw [yab,yab];exact zai (by have:=List.length_take_le i tabs;have:=ok.2.1;omega)
   rw [zeg B];have D6:MdOk H6 (tabs.take i) d:=(I.same G).same s6;have A7:=D6.add (t:=tabs[i]) (p:=p) (l := []) B e yce (λ_ z=>nomatch z);rw [<- tk] at A7;have e7:(tabs.take (i+1)).map (·.1)=(tabs.take i).map (·.1) ++ [tabs[i].1]:=by rw [tk,yak];rfl
   rw [e7] at A7;have R:Same H H6:=(Z.trans G).trans s6;have S7:Same H (upd (upd H6 p (.dK (ksD []))) d.a (.dK (nmD ((tabs.take i).map (·.1) ++ [tabs[i].1]) (d.add tabs[i].1 p []).f))):=(R.upd (R.free e)).upd new.1;have N7:(upd (upd H6 p (.dK (ksD []))) d.a (.dK (nmD ((tabs.take i).map (·.1) ++ [tabs[i].1]) (d.add tabs[i].1 p []).f))) N=some (.lst (ds.map V.int)):=by
    rw [zaf (λz=>by rw [z,G _ _ I.at_.out] at hN;cases hN),zaf (λz=>by rw [<- z,ag] at e;cases e)];exact ag
   have b:MdNew H ((tabs.take (i+1)).map (·.1)) (d.add tabs[i].1 p []):=⟨new.1,λnm hn=>by
    show H (if nm=tabs[i].1 then p else d.f nm)=none;rw [e7] at hn;rcases yau.mp hn with z | z
    ·rw [if_neg (λy:nm=tabs[i].1=>B (y ▸ z))];exact new.2 nm z
    ·rw [if_pos (yai.mp z)];exact R.free e⟩
   show tFor _ _ _ _ _ (upd (upd H6 p (.dK (ksD []))) d.a (.dK (nmD ((tabs.take i).map (·.1) ++ [tabs[i].1]) (d.add tabs[i].1 p []).f)));generalize upd (upd H6 p (.dK (ksD []))) d.a (.dK (nmD ((tabs.take i).map (·.1) ++ [tabs[i].1]) (d.add tabs[i].1 p []).f))=H7 at A7 S7 N7 ⊢;have da:(d.add tabs[i].1 p []).a=d.a:=rfl;generalize d.add tabs[i].1 p []=d1 at A7 b da;rw [<- da];clear D6 I B e7;have z0:=md0 (ds.getD (40:Int).toNat 0) (show (0:Int) < 9 by decide);have z1:=md1 (ds.getD (40:Int).toNat 0) (show (0:Int) < 9 by decide);refine ea rfl (ixLc (SqL.of N7) (zaO (by decide) (by omega)) ⟨_,_,rfl,rfl,(show (0:Int) < 9 by decide),_,rfl,by omega,by omega,?_⟩);have mt:tabs[i]∈tabs.take (i+1):=by rw [tk];exact yaN _ (yai.mpr rfl)
   refine zbs (lo:=0) (n:=(ds.getD (40:Int).toNat 0 % 9).toNat) (λj J C=>∃ (v6 v7:Option V) (o:Md),J = [some (.ref tt),some (.int c),some (.ref d1.a),some (.int i),some (.ref ts[i]),some (.ref N),v6,v7]/\Same H C/\C N=some (.lst (ds.map V.int))/\o.a=d1.a/\o.f=d1.f/\MdOk C (tabs.take (i+1)) o)
    ⟨v6,v7,d1,rfl,S7,N7,rfl,rfl,A7⟩ ?_ ?_
   ·rintro j J C hj ⟨aN,aG,o,rfl,U,N8,g,D,D8⟩;have ai:cutV (ds.map V.int) (some (5*(0+(j:Int)))) (some (5*(0+(j:Int))+4))=((ds.drop (5*j)).take 4).map V.int:=by
     have e1:(5:Int)*(0+(j:Int))=((5*j:Nat):Int):=by omega
     have e2:((5*j:Nat):Int)+4=((5*j+4:Nat):Int):=by omega
     rw [e1,e2,zhd (by omega) (by rw [yab];omega),<- yes,<- List.map_take]
     congr 2
     omega
    refine sq1 λR5 p5 => ?_;refine ea rfl (ea rfl (ea rfl ⟨_,_,rfl,rfl,.inl ⟨by decide,by decide⟩,_,rfl,ea rfl ⟨_,_,rfl,rfl,.inl ⟨by decide,by decide⟩,_,_,rfl,rfl,_,rfl,_,_,rfl,SqL.of N8,λl aF => ?_⟩⟩));dsimp only;rw [ai];have s9:Same C (upd C l (.lst (((ds.drop (5*j)).take 4).map V.int))):=Same.new aF;have l9:(upd C l (.lst (((ds.drop (5*j)).take 4).map V.int))) l=some (.lst (((ds.drop (5*j)).take 4).map V.int)):=zab;generalize upd C l (.lst (((ds.drop (5*j)).take 4).map V.int))=H9 at s9 l9 ⊢;have S9:=U.trans s9;refine ⟨ts[i],l,ca,qs,tabs[i],_,rfl,S9 _ _ ht,S9 _ _ aB,hC.same S9,L,l9,?_,λd hd=>aJ d (ycX (ycu hd)),λr ks aL W aV aj hK=>p5 ?_⟩
    ·rw [yaA,ybk];have:=L.2.2.1;omega
    obtain ⟨k,hk⟩:=hK.head L;have m:MdOk aL (tabs.take (i+1)) o:=(D8.same s9).same W;have ak:=S9.trans W;refine ea rfl (ea rfl (ea rfl (ixTc (v := .str tabs[i].1) (SqT.of (ak _ _ ht)) rfl ⟨d1.a,_,rfl,zcC (.inl (g ▸ m.at_.out)) (zaw mt),ea rfl (ixTc (v:=kV k) (SqT.of aj) (zg2 hk) ⟨o.f tabs[i].1,_,rfl,DPut.k (k:=k) (m.at_.ins _ (zaw mt)) ?_,?_⟩)⟩)))
    ·unfold ksD;rw [yab];exact zai (by have:=m.rows.len (λt ht=>ok.2.2.1 t (ycu ht)) mt;omega)
    rw [zd9];have rr:=m.rows _ mt;refine ⟨_,_,o.set tabs[i].1 (putR (o.rows tabs[i].1) k r),rfl,?_,?_,g,D,m.set O mt (zfQ rr.1) λp e => ?_⟩
    ·exact ak.upd (by rw [D];exact b.2 _ (zaw mt))
    ·rw [zaf (λz=>by have:=D8.at_.ins _ (zaw mt);rw [<- z,N8] at this;cases this)];exact W _ _ (s9 _ _ N8)
    ·rcases zif e with rfl | e
     ·exact ⟨ks,aj,hK,hk⟩
     ·exact rr.2 p e
   ·rintro J C ⟨aN,aG,o,rfl,U,N8,g,D,D8⟩;refine ⟨_,_,_,_,_,o,rfl,U,g.trans rfl,⟨by rw [g];exact b.1,λnm hn=>by rw [D];exact b.2 nm hn⟩,D8⟩
  ·rintro J F ⟨v3,v4,v5,v6,v7,d,rfl,Z,rfl,new,I⟩;rw [yab,af,yaG] at new I;exact p2 (ea rfl (q d F Z new I))
structure HdFor (H H':Hp) (tabs:List Tab) (d:Md) (hs:List HdR):Prop where
 nd:(hs.map (·.nm)).Nodup
 is:∀ h∈hs,∃ t∈tabs,h.nm=t.1/\h.rows=((d.rows t.1).map λp=>(p.2,p.1)).reverse/\H' h.l=some (.lst (h.rows.map λr => .ref r.1))/\H h.l=none
 all:∀ t∈tabs,d.rows t.1 ≠ []->∃ h∈hs,h.nm=t.1
def zfk:Sp:=λvs H Q _=>∃ (d:Md) (tabs:List Tab),vs = [.ref d.a]/\MdOk H tabs d/\zaY tabs /\
 ∀ (hd:Addr) (hs:List HdR) (H':Hp),Same H H'->H hd=none->H' hd=some (.dK (hsD hs))->HdFor H H' tabs d hs->Q (.ref hd) H'
theorem hsD_snoc {hs:List HdR} {h:HdR} (n:h.nm∉hs.map (·.nm)):putK (hsD hs) (.inr h.nm) (.ref h.l)=hsD (hs ++ [h]):=by
 rw [zd6]
 ·unfold hsD;rw [yak];rfl
 ·unfold valV hsD;rw [List.find?_map];cases e:hs.find? ((λkv:Key×V=>decide (kv.1 = .inr h.nm)) ∘ λh:HdR=>((.inr h.nm:Key),V.ref h.l)) with
  | none=>rfl
  | some g =>
   have:=List.find?_some e;simp at this;exact absurd (yao.mpr ⟨g,List.mem_of_find?_eq_some e,this⟩) n
theorem nmD_at {names:List Str} {f:Str->Addr} {i:Nat} {p:Key×V} (h:(nmD names f)[i]? = some p):∃ hi:i < names.length,p=(.inr names[i],.ref (f names[i])):=by
 unfold nmD at h;rw [yaf] at h;have hi:i < names.length:=by
  rcases yb6 i names.length with z | z
  ·exact z
  ·rw [ybV z] at h;cases h
 rw [yaa hi] at h;cases h;exact ⟨hi,rfl⟩
theorem zfd (T:Txt K mg):FnOk P w K mg base CX0 1 T._law_handed.f T._law_handed.fd ["_law_model"] zfk:=by
 refine T._law_handed.fn.ok sc__law_handed (λvs H Q E h => ?_) (λaE A outer s H vs Q E hr h => ?_)
 ·obtain ⟨d,tabs,rfl,_⟩:=h;rfl
 ·obtain ⟨d,tabs,rfl,D,ok,q⟩:=h;have L:=hu_of hr;have ar:=hr.units0;refine ⟨_,((zad (zas (i:=1) sc__law_handed.nd rfl (yaL rfl) zbo)
   (zad (zeo yaQ rfl (zeK (pv 0)) (zal (i:=2) sc__law_handed.nd rfl (yaL rfl)) (zag (ps_if (PW.pt (pw_or (zaz (op_neDE ar) (zaM L (pv 0) (pv 2) (λ_ _=>rfl)) zbo (zaD _)) (zcB (zaz op_eq (pe_op zaL (zap zbM (by rfl) T.b_len za9 (zaa (pv 2) zae)) zac) zac (zaD _))))) (zag (zbu L (pv 1) (pv 2) (zgO (lo_rev (K:=K) rfl rfl) (by rfl) T.b_list (by rfl) T.b_reversed zhi (zaa (zaQ (ziv rfl) (by rfl) T.b_list zen (zaa (zdG (K:=K) rfl yb2 PySem.F.slot_dict_values PySem.F.type_dict_values mt_values (zaM L (pv 0) (pv 2) (λ_ _=>rfl))) zae)) zae)) rfl)) zau)))
   (zag (zao (pv 1)))))),?_⟩
  refine sq1 λR1 p1 => ?_;refine λhd j=>p1 ?_;have s1:Same H (upd H hd (.dK [])):=Same.new j;have h1:(upd H hd (.dK [])) hd=some (.dK []):=zab;generalize upd H hd (.dK [])=H1 at s1 h1 ⊢;refine sq1 λR2 p2 => ?_;have nh:hd≠d.a:=λz=>by rw [z,D.at_.out] at j;cases j
  have nf:∀ nm∈tabs.map (·.1),d.f nm≠hd:=λnm O z=>by rw [<- z,D.at_.ins nm O] at j;cases j
  refine ea rfl ⟨d.a,_,rfl,s1 _ _ D.at_.out,λob as => ?_⟩;refine zc7 (a:=d.a) (ob:=ob) (kvs:=nmD (tabs.map (·.1)) d.f) (λi σ u=>∃ (v2:Option V) (hs:List HdR),σ = [some (.ref d.a),some (.ref hd),v2]/\Ch1 d.a H u/\u d.a=some (.frz ob (.dK (nmD (tabs.map (·.1)) d.f)))/\u hd=some (.dK (hsD hs))/\(∀ h∈hs,h.l≠d.a)/\(∀ h∈hs,h.nm∈(tabs.take i).map (·.1))/\HdFor H u (tabs.take i) d hs)
   ⟨none,[],rfl,(λb o n e=>(zaf n).trans (s1 _ _ e)),zab,(zaf nh).trans h1,(λ_ z=>nomatch z),(λ_ z=>nomatch z),yce,(λ_ z=>nomatch z),λ_ z=>nomatch z⟩ (λi σ u _ ⟨_,_,_,_,e,_⟩=>e) ?_ ?_
  ·rintro i p σ u hp ⟨v2,hs,rfl,ch,m,Z,ln,O,C⟩;obtain ⟨W,rfl⟩:=nmD_at hp;have hi:i < tabs.length:=by rwa [yab] at W
   have mt:tabs[i]∈tabs:=yam hi;have ak:=ok.2.2.1 _ mt;have en:(tabs.map (·.1))[i]=tabs[i].1:=by rw [ybl]
   have I:tabs.take (i+1)=tabs.take i ++ [tabs[i]]:=by rw [yb1,yaa hi];rfl
   have al:tabs[i].1∉(tabs.take i).map (·.1):=by
    have R:((tabs.take (i+1)).map (·.1)).Nodup:=ok.2.2.2.sublist ((ydG _ _).map _);rw [I,yak,ybq] at R;exact λz=>R.2.2 _ z _ (yai.mpr rfl) rfl
   have fx:u (d.f tabs[i].1)=some (.dK (ksD (d.rows tabs[i].1))):=ch _ _ (D.at_.ne _ (zaw mt)) (D.at_.ins _ (zaw mt));have dg:∀ {Hy:Hp},Hy d.a=some (.frz ob (.dK (nmD (tabs.map (·.1)) d.f)))->DGet Hy d.a (.str (tabs.map (·.1))[i]) (some (.ref (d.f tabs[i].1))):=λe=>by
    rw [en];exact zcC (.inr ⟨_,e⟩) (zaw mt)
   have J:∀ N:List HdR,(∀ h∈N,h.nm∈(tabs.take i).map (·.1))->∀ h∈N,h.nm∈(tabs.take (i+1)).map (·.1):=λN z h g=>by
    rw [I,yak];exact ybe _ (z h g)
   refine ea rfl (ea rfl ⟨d.a,_,rfl,dg m,λe he => ?_⟩);have G:Same u (upd u e (.dK [])):=Same.new he;have e2:(upd u e (.dK [])) e=some (.dK []):=zab;generalize upd u e (.dK [])=H2 at G e2 ⊢;have an:Ch1 d.a H H2:=ch.trans (Ch1.of G);have lz:((tabs.map λt:Tab=>t.1)[i]'W).length<=1000:=by rw [en];exact zdR ak.1
   refine ⟨d.f tabs[i].1,e,ksD (d.rows tabs[i].1),rfl,rfl,.inl (G _ _ fx),e2,ea rfl (ite2 (λz => ?_) (λz=>ea rfl ⟨_,rfl,zah (by omega),_,_,rfl,rfl,(show (0:Int) < 2 by decide),rfl,ea rfl (ite2 (λy => ?_) (λy => ?_))⟩))⟩
   rotate_left 2
   ·refine ⟨_,hs,rfl,an,G _ _ m,G _ _ Z,ln,J hs O,C.nd,λh g => ?_,λt B ne => ?_⟩
    ·obtain ⟨t,B,a,b,c,e⟩:=C.is h g;exact ⟨t,by rw [I];exact ybe _ B,a,b,G _ _ c,e⟩
    ·rw [I] at B;rcases yau.mp B with M | M
     ·exact C.all t M ne
     ·rw [yai.mp M] at ne;exfalso;apply z;cases er:d.rows tabs[i].1 with
      | nil=>exact absurd er ne
      | cons a b=>rfl
   all_goals
    refine ea rfl (ea rfl ⟨d.a,_,rfl,dg (G _ _ m),.inr (.inr (.inl ⟨rfl,.inl ⟨_,G _ _ fx⟩⟩)),d.f tabs[i].1,_,rfl,rfl,.inl (G _ _ fx),λv hv => ?_⟩);have s3:Same H2 (upd H2 v (valsO v (d.f tabs[i].1))):=Same.new hv;have v3:(upd H2 v (valsO v (d.f tabs[i].1))) v=some (valsO v (d.f tabs[i].1)):=zab;generalize upd H2 v (valsO v (d.f tabs[i].1))=H3 at s3 v3 ⊢;refine ⟨v,d.f tabs[i].1,ksD (d.rows tabs[i].1),rfl,v3,.inl (s3 _ _ (G _ _ fx)),λl hl => ?_⟩;have s4:Same H3 (upd H3 l (.lst ((ksD (d.rows tabs[i].1)).map (·.2)))):=Same.new hl;have l4:(upd H3 l (.lst ((ksD (d.rows tabs[i].1)).map (·.2)))) l=some (.lst ((ksD (d.rows tabs[i].1)).map (·.2))):=zab;generalize upd H3 l (.lst ((ksD (d.rows tabs[i].1)).map (·.2)))=H4 at s4 l4 ⊢;refine ⟨l,_,rfl,SqL.of l4,λr hr => ?_⟩;have s5:Same H4 (upd H4 r (.lst ((ksD (d.rows tabs[i].1)).map (·.2)).reverse)):=Same.new hr;have Y:(upd H4 r (.lst ((ksD (d.rows tabs[i].1)).map (·.2)).reverse)) r=some (.lst ((((d.rows tabs[i].1).map λp=>(p.2,p.1)).reverse).map λr=>V.ref r.1)):=by
     rw [zab];unfold ksD;rw [yaU,<- yd2,<- yd2,yaU];rfl
    generalize upd H4 r (.lst ((ksD (d.rows tabs[i].1)).map (·.2)).reverse)=H5 at s5 Y ⊢;have S5:Same u H5:=((G.trans s3).trans s4).trans s5;have U:=S5 _ _ Z;have nr:r≠hd:=λz=>by rw [z] at Y;rw [U] at Y;cases Y
    have fr:H r=none/\r≠d.a:=Ch1.none (ch.trans (Ch1.of ((G.trans s3).trans s4))) (s4 _ _ (s3 _ _ (G _ _ m))) hr;refine ea rfl (ea rfl ⟨hd,_,rfl,DPut.k (k := .inr (tabs.map (·.1))[i]) U ?_,?_⟩)
    ·unfold hsD;rw [yab];have l1:(hs.map (·.nm)).length<=(tabs.map (·.1)).length:=C.nd.length_le_of_subset λx hx=>by
      obtain ⟨h,g,e⟩:=yao.mp hx;obtain ⟨t,B,a,_⟩:=C.is h g;rw [<- e,a];exact zaw (ycu B)
     rw [yab,yab] at l1;exact zai (by have:=ok.2.1;omega)
    rw [en];have S:tabs[i].1∉hs.map (·.nm):=λz=>by
     obtain ⟨h,g,e⟩:=yao.mp z;exact al (e ▸ O h g)
    have pk:=hsD_snoc (hs:=hs) (h:=⟨tabs[i].1,r,((d.rows tabs[i].1).map λp=>(p.2,p.1)).reverse⟩) S;simp only at pk;rw [pk];have k6:∀ b o,b≠hd->H5 b=some o->(upd H5 hd (.dK (hsD (hs ++ [⟨tabs[i].1,r,((d.rows tabs[i].1).map λp=>(p.2,p.1)).reverse⟩])))) b=some o:=λb o n e=>(zaf n).trans e;refine ⟨_,hs ++ [⟨tabs[i].1,r,((d.rows tabs[i].1).map λp=>(p.2,p.1)).reverse⟩],rfl,λb o n e=>k6 b o (λz=>by rw [z,j] at e;cases e) (S5 _ _ (ch b o n e)),k6 _ _ (ybt nh) (S5 _ _ m),zab,λh g => ?_,λh g => ?_,?_,λh g => ?_,λt B ne => ?_⟩
    ·rcases yau.mp g with z | z
     ·exact ln h z
     ·rw [yai.mp z];exact fr.2
    ·rcases yau.mp g with z | z
     ·exact J hs O h z
     ·rw [yai.mp z,I,yak];exact yaN _ (yai.mpr rfl)
    ·rw [yak,ybq];exact ⟨C.nd,by simp,λa ha b hb e=>S (by rw [yai.mp hb] at e;have e':a=tabs[i].1:=e;exact e' ▸ ha)⟩
    ·rcases yau.mp g with z | z
     ·obtain ⟨t,B,a,b,c,e⟩:=C.is h z;exact ⟨t,by rw [I];exact ybe _ B,a,b,k6 _ _ (λy=>by rw [y,Z] at c;cases c) (S5 _ _ c),e⟩
     ·rw [yai.mp z];exact ⟨tabs[i],by rw [I];exact yaN _ (yai.mpr rfl),rfl,rfl,k6 _ _ nr Y,fr.1⟩
    ·rw [I] at B;rcases yau.mp B with M | M
     ·obtain ⟨h,g,e⟩:=C.all t M ne;exact ⟨h,ybe _ g,e⟩
     ·exact ⟨_,yaN _ (yai.mpr rfl),by rw [yai.mp M]⟩
  ·rintro σ u ⟨v2,hs,rfl,ch,m,Z,ln,O,C⟩;refine ⟨d.a,ob,_,as,m,p2 ?_⟩;have el:(nmD (tabs.map (·.1)) d.f).length=tabs.length:=by unfold nmD;rw [yab,yab]
   rw [el,yaG] at C;have sm:Same H (upd u d.a (.dK (nmD (tabs.map (·.1)) d.f))):=λb o e=>by
    by_cases z:b=d.a
    ·rw [z,zab,<- e,z,D.at_.out]
    ·rw [zaf z];exact ch b o z e
   refine ea rfl (q hd hs _ sm j ((zaf nh).trans Z) ⟨C.nd,λh g => ?_,C.all⟩);obtain ⟨t,B,a,b,c,e⟩:=C.is h g;exact ⟨t,B,a,b,(zaf (ln h g)).trans c,e⟩
def fwD (ws:List Wr):List (List Key×V):=ws.map λw=>([.inr w.1,w.2.1],adV w.2.2)
def putW (ws:List Wr) (nm:Str) (k:Key) (row:Option Addr):List Wr:=if (ws.any λw=>decide (w.1=nm/\w.2.1=k))=true then ws.map (λw=>if w.1=nm/\w.2.1=k then (w.1,w.2.1,row) else w) else ws ++ [(nm,k,row)]
theorem key2 (w:Wr) (nm:Str) (k:Key):(([.inr w.1,w.2.1]:List Key) = [.inr nm,k])↔(w.1=nm/\w.2.1=k):=by
 constructor
 ·intro h;injection h with h1 h2;injection h1 with h1;injection h2 with h2;exact ⟨h1,h2⟩
 ·rintro ⟨a,b⟩;rw [a,b]
theorem fwD_put (ws:List Wr) (nm:Str) (k:Key) (a:Option Addr):putK (fwD ws) [.inr nm,k] (adV a)=fwD (putW ws nm k a):=by
 unfold putK putW fwD;have e:(ws.map λw=>(([.inr w.1,w.2.1]:List Key),adV w.2.2)).any (λkv=>decide (kv.1 = [.inr nm,k]))=ws.any λw=>decide (w.1=nm/\w.2.1=k):=by
  rw [List.any_map]
  congr 1
  funext w
  exact decide_eq_decide.mpr (key2 w nm k)
 rw [e];split
 ·rw [yaU,yaU];refine yd8 λw _ => ?_;simp only [Function.comp];by_cases z:w.1=nm/\w.2.1=k
  ·rw [if_pos ((key2 w nm k).mpr z),if_pos z]
  ·rw [if_neg (λy=>z ((key2 w nm k).mp y)),if_neg z]
 ·rw [yak];rfl
theorem putW_mem {ws:List Wr} {nm:Str} {k:Key} {a:Option Addr} {w:Wr} (h:w∈putW ws nm k a):w=(nm,k,a)\/w∈ws:=by
 unfold putW at h;split at h
 ·obtain ⟨v,b,e⟩:=yao.mp h;split at e
  ·rename_i z;exact .inl (by rw [<- e,z.1,z.2])
  ·exact .inr (e ▸ b)
 ·rcases yau.mp h with z | z
  ·exact .inr z
  ·exact .inl (yai.mp z)
theorem putW_len (ws:List Wr) (nm:Str) (k:Key) (a:Option Addr):(putW ws nm k a).length<=ws.length+1:=by
 unfold putW;split
 ·rw [yab];omega
 ·rw [yaK];exact yaj _
def WNd (ws:List Wr):Prop:=(ws.map λw=>(w.1,w.2.1)).Nodup
theorem putW_nd {ws:List Wr} {nm:Str} {k:Key} {c:Option Addr} (h:WNd ws):WNd (putW ws nm k c):=by
 unfold WNd putW;split
 ·rw [yaU];have e:((λw:Wr=>(w.1,w.2.1)) ∘ λw:Wr=>if w.1=nm/\w.2.1=k then (w.1,w.2.1,c) else w)=λw=>(w.1,w.2.1):=by
   funext w
   simp only [Function.comp];split <;> rfl
  rw [e];exact h
 ·rename_i z;rw [yak,ybq];refine ⟨h,by simp,λa f b g e=>z ?_⟩;obtain ⟨w,hw,rfl⟩:=yao.mp f;have d:b=(nm,k):=by simpa using g
  rw [d] at e;injection e with e1 e2;exact yd1.mpr ⟨w,hw,decide_eq_true ⟨e1,e2⟩⟩
def WOk (H:Hp) (tabs:List Tab) (w:Wr):Prop:=∃ t∈tabs,w.1=t.1/\w.2.1∈univ (keyK t)/\∀ r,w.2.2=some r->RowAt H t.2 w.2.1 r
theorem WOk.keep {H H':Hp} {tabs:List Tab} {w:Wr} (h:WOk H tabs w) (d:∀ b xs,H b=some (.tup xs)->H' b=some (.tup xs)):WOk H' tabs w :=
 let ⟨t,ht,a,b,c⟩:=h
 ⟨t,ht,a,b,λr e=>(c r e).keep d⟩
structure WI (H:Hp) (tabs:List Tab) (fa N:Addr) (ds:List Int) (n:Nat) (H4:Hp) (ws:List Wr):Prop where
 sm:Same H H4
 fa4:H4 fa=some (.dT (fwD ws))
 n4:H4 N=some (.lst (ds.map V.int))
 nd:WNd ws
 le:ws.length<=n
 ok:∀ w∈ws,WOk H4 tabs w
theorem WI.same {H c b:Hp} {tabs:List Tab} {a N:Addr} {ds:List Int} {n:Nat} {ws:List Wr} (h:WI H tabs a N ds n c ws) (s:Same c b):WI H tabs a N ds n b ws :=
 ⟨h.sm.trans s,s _ _ h.fa4,s _ _ h.n4,h.nd,h.le,λw hw=>(h.ok w hw).keep λ_ _=>s _ _⟩
theorem WI.put {H d:Hp} {tabs:List Tab} {c N:Addr} {ds:List Int} {n:Nat} {ws:List Wr} {nm:Str} {k:Key} {a:Option Addr} (h:WI H tabs c N ds n d ws) (g:H c=none) (ok:WOk d tabs (nm,k,a)) :
  WI H tabs c N ds (n+1) (upd d c (.dT (putK (fwD ws) [.inr nm,k] (adV a)))) (putW ws nm k a):=by
 have f:∀ b xs,d b=some (.tup xs)->(upd d c (.dT (putK (fwD ws) [.inr nm,k] (adV a)))) b=some (.tup xs):=λb xs e=>(zaf (λz=>by rw [z,h.fa4] at e;cases e)).trans e;refine ⟨h.sm.upd g,by rw [zab,fwD_put],(zaf (λz=>by have:=h.n4;rw [z,h.fa4] at this;cases this)).trans h.n4,putW_nd h.nd,yaY (putW_len ..) (yeX h.le),λw hw => ?_⟩;rcases putW_mem hw with rfl | z
 ·exact ok.keep f
 ·exact (h.ok w z).keep f
theorem fwD_val {ws:List Wr} {w:Wr} (c:WNd ws) (h:w∈ws):valV (fwD ws) [.inr w.1,w.2.1]=some (adV w.2.2):=by
 induction ws with
 | nil=>cases h
 | cons v r d =>
  unfold WNd at c;rw [yaw,ybm] at c;unfold valV fwD at d ⊢;rw [yaw];by_cases e:([.inr v.1,v.2.1]:List Key) = [.inr w.1,w.2.1]
  ·rw [List.find?_cons_of_pos (by simpa using e)];rcases yaJ.mp h with rfl | z
   ·rfl
   ·obtain ⟨a,b⟩:=(key2 v _ _).mp e;exact absurd (yao.mpr ⟨w,z,by rw [<- a,<- b]⟩) c.1
  ·rw [ybn (by simpa using e)];rcases yaJ.mp h with rfl | z
   ·exact absurd rfl e
   ·exact d c.2 z
def zff:Sp:=λvs H Q _=>∃ (tt tl ol:Addr) (c:Int) (ts ex:List Addr) (tabs:List Tab) (d:Md),vs = [.ref tt,.ref d.a,.int c]/\H tt=some (.tup [.ref tl,.ref ol])/\H tl=some (.lst (ts.map V.ref))/\TabsL ex H ts tabs/\zaY tabs/\MdOk H tabs d /\
 ∀ (wl:Addr) (tps:List Addr) (ws:List Wr) (H':Hp),Same H H'->H wl=none->H' wl=some (.lst (tps.map V.ref))->WrAt H' tps ws->ws.length<=12->WNd ws->(∀ w∈ws,WOk H' tabs w)->Q (.ref wl) H'
theorem MdR.key {H:Hp} {tabs:List Tab} {d:Md} (h:MdR H tabs d) {t:Tab} (a:t∈tabs) {k:Key} (c:k∈(d.rows t.1).map (·.1)):k∈univ (keyK t):=by
 obtain ⟨p,b,e⟩:=yao.mp c;rw [<- e];exact ((h t a).2 p b).univ
theorem keyKd {t:Tab} (ok:okTab t.1 t.2):okKd (keyK t):=by
 obtain ⟨_,l1,_,a,_⟩:=ok;unfold keyK;obtain ⟨c,r,e⟩:=yfl (λz:t.2 = []=>by rw [z] at l1;cases l1);rw [e];exact (a c (by rw [e];exact yax)).2
theorem oneK.sub {l m:List Key} (h:oneK m) (s:∀ k∈l,k∈m):oneK l:=by
 rcases h with h | h
 ·exact .inl λk a=>h k (s k a)
 ·exact .inr λk a=>h k (s k a)
theorem RowK.rekey {t:Tab} {ks:List Key} {k:Key} (h:RowK t.2 ks) (b:k∈univ (keyK t)) (ok:okTab t.1 t.2):RowK t.2 (k :: ks.drop 1):=by
 unfold keyK at b;have l1:=ok.2.1;unfold RowK at h ⊢;generalize t.2=cs at h b l1 ⊢;cases h with
 | nil=>cases l1
 | cons a r=>exact .cons b r
theorem keys_flat (a:List Key):(a.map kV).all flatV=true:=by
 rw [ydx,yaX];intro k _;cases k <;> rfl
theorem adV_get (o:Option Addr):(o.map V.ref).getD .non=adV o:=by cases o <;> rfl
theorem zfu (T:Txt K mg):FnOk P w K mg base CX0 3 T._law_writes.f T._law_writes.fd ["_law_told", "_law_model", "_law_cell"] zff:=by
 refine T._law_writes.fn.ok sc__law_writes (λvs H Q E h => ?_) (λcC A outer s H vs Q E hr h => ?_)
 ·obtain ⟨tt,tl,ol,c,ts,ex,tabs,d,rfl,_⟩:=h;rfl
 ·obtain ⟨tt,tl,ol,c,ts,ex,tabs,d,rfl,aN,bc,hT,ok,D,q⟩:=h;have M:=hu_of hr;have bN:=hr.units0;have cc:ts.length=tabs.length:=yaC hT;refine ⟨_,((zad (zas (i:=3) sc__law_writes.nd rfl (yaL rfl) (zaq (za4 T) (hr.mono (by decide)) rfl (zaa (pv 2) (zaa zac zae))))
   (zad (zas (i:=4) sc__law_writes.nd rfl (Or.inr rfl) pe_dnewT)
   (zad (zaV yaQ rfl (zbd rfl T.b_range (zaa (pe_op zaL (pe_ix (zam (K:=K) rfl) (pv 3) zac (λ_ _=>rfl)) zac) zae)) (zal (i:=5) sc__law_writes.nd rfl (yaL rfl)) (zad (zas (i:=6) sc__law_writes.nd rfl (yaL rfl) (zbq (zek (K:=K) rfl) (pv 3) (zbf (pe_op zbr zac (pe_op zbZ zac (pv 5)))) (zbf (pe_op zbr zac (pe_op zbZ zac (pv 5))))))
   (zad (zas (i:=7) sc__law_writes.nd rfl (yaL rfl) (pe_ix (zam (K:=K) rfl) (pe_ix (zak (K:=K) rfl) (pv 0) zac (λ_ _=>rfl)) (pe_op zaL (pe_ix (zam (K:=K) rfl) (pv 6) zac (λ_ _=>rfl)) (zap (zav (K:=K) rfl) (by rfl) T.b_len za9 (zaa (pe_ix (zak (K:=K) rfl) (pv 0) zac (λ_ _=>rfl)) zae))) (λ_ _=>rfl)))
   (zad (zas (i:=8) sc__law_writes.nd rfl (yaL rfl) (zaq (zeR T) (hr.mono (by decide)) rfl (zaa (pv 7) (zaa (zbq (zek (K:=K) rfl) (pv 6) (zbf zac) (zbf zac)) zae))))
   (zad (zas (i:=9) sc__law_writes.nd rfl (yaL rfl) (zap (zcd rfl) (by rfl) T.b_sorted zcq (zaa (zaM M (pv 1) (pe_ix (zak (K:=K) rfl) (pv 7) zac (λ_ _=>rfl)) (λ_ _=>rfl)) zae)))
   (zad (ps_if (PW.pt (zgn (zaz (op_neLK (K:=K) rfl bN) (pv 9) (za3 zae) (zaD _)) (zeP (zaz op_eq (pe_op zaL (pe_ix (zam (K:=K) rfl) (pv 6) zac (λ_ _=>rfl)) zac) zac (zaD _))))) (zag (zas (i:=8) sc__law_writes.nd rfl (yaL rfl) (pe_op op_catS (zaU (zaa (pe_ix (zam (K:=K) rfl) (pv 9) (pe_op zaL (pe_op zaR (pe_ix (zam (K:=K) rfl) (pv 6) zac (λ_ _=>rfl)) zac) (zap (zav (K:=K) rfl) (by rfl) T.b_len za9 (zaa (pv 9) zae))) (λ_ _=>rfl)) zae)) (zbq (sl_tupK (K:=K) rfl) (pv 8) (zbf zac) zdx)))) zau)
   (zad (zas (i:=10) sc__law_writes.nd rfl (yaL rfl) (pe_op zaL (pe_op zaR (pe_ix (zam (K:=K) rfl) (pv 6) zac (λ_ _=>rfl)) zac) zac))
   (zad (zbu M (pv 4) (zaU (zaa (pe_ix (zak (K:=K) rfl) (pv 7) zac (λ_ _=>rfl)) (zaa (pe_ix (zak (K:=K) rfl) (pv 8) zac (λ_ _=>rfl)) zae))) (pv 8) rfl)
   (zad (ps_if (zaz op_lt (pv 10) zac (zaD _)) (zag (zbu M (pv 4) (zaU (zaa (pe_ix (zak (K:=K) rfl) (pv 7) zac (λ_ _=>rfl)) (zaa (pe_ix (zak (K:=K) rfl) (pv 8) zac (λ_ _=>rfl)) zae))) zez rfl)) zau)
   (zag (ps_if (zaz op_eq (pv 10) zac (zaD _)) (zag (zbu M (pv 4) (zaU (zaa (pe_ix (zak (K:=K) rfl) (pv 7) zac (λ_ _=>rfl)) (zaa (pe_ix (zak (K:=K) rfl) (pv 8) zac (λ_ _=>rfl)) zae))) (pe_dget1 M (zaM M (pv 1) (pe_ix (zak (K:=K) rfl) (pv 7) zac (λ_ _=>rfl)) (λ_ _=>rfl)) (pe_ix (zak (K:=K) rfl) (pv 8) zac (λ_ _=>rfl)) ⟨rfl,rfl,rfl,rfl⟩) rfl)) zau)))))))))))
   (zag (zao (za7 (N := ["_law_table", "_law_key", "_law_found"]) (own:=2) (caps := [4]) rfl (by kernel_rfl) (by kernel_rfl) (pi_dictT (pv 4)) (λ_ _ _ _ _=>(zbe (K:=K) (n:=2) rfl rfl (zat (zal (i:=0) (show List.Nodup (["_law_table", "_law_key", "_law_found"]:List Str) by decide +kernel) rfl (yaL rfl)) (zat (zal (i:=1) (show List.Nodup (["_law_table", "_law_key", "_law_found"]:List Str) by decide +kernel) rfl (yaL rfl)) zbj)))) (λ_ _ _ _ _=>zaW) (λ_ _ _ _ _=>(zaU (zaa (pv 0) (zaa (pv 1) (zaa (zaM M (pv 2) (zaU (zaa (pv 0) (zaa (pv 1) zae))) (λ_ _=>rfl)) zae)))))))))))),?_⟩
  refine sq1 λR1 p1 => ?_;refine ea rfl ⟨c,26,rfl,by decide,by decide,λN ds H1 s1 hN aU hl bO=>p1 ?_⟩;refine sq1 λR2 p2 => ?_;refine λg aS=>p2 ?_;have s2:Same H1 (upd H1 g (.dT [])):=Same.new aS;have ba:(upd H1 g (.dT [])) g=some (.dT []):=zab;generalize upd H1 g (.dT [])=H2 at s2 ba ⊢;have fH:H g=none:=s1.free aS;refine sq1 λR3 p3 => ?_;have x0:=md0 (ds.getD (0:Int).toNat 0) (show (0:Int) < 5 by decide);have x1:=md1 (ds.getD (0:Int).toNat 0) (show (0:Int) < 5 by decide);refine ea rfl (ixLc (SqL.of (s2 _ _ aU)) (zaO (by decide) (by omega)) ⟨_,_,rfl,rfl,(show (0:Int) < 5 by decide),_,rfl,by omega,by omega,?_⟩);refine zbs (lo:=0) (n:=(ds.getD (0:Int).toNat 0 % 5).toNat) (λj σ H4=>∃ (v5 v6 v7 v8 v9 ae:Option V) (ws:List Wr),σ = [some (.ref tt),some (.ref d.a),some (.int c),some (.ref N),some (.ref g),v5,v6,v7,v8,v9,ae]/\WI H tabs g N ds (3*j) H4 ws)
   ⟨none,none,none,none,none,none,[],rfl,s1.trans s2,ba,s2 _ _ aU,yce,yaj _,λ_ z=>nomatch z⟩ ?_ ?_
  ·rintro j σ H4 hj ⟨v5,v6,v7,v8,v9,ae,ws,rfl,I⟩;have aY:cutV (ds.map V.int) (some (1+6*(0+(j:Int)))) (some (7+6*(0+(j:Int))))=((ds.drop (1+6*j)).take 6).map V.int:=by
    have e1:1+(6:Int)*(0+(j:Int))=((1+6*j:Nat):Int):=by omega
    have e2:7+(6:Int)*(0+(j:Int))=((7+6*j:Nat):Int):=by omega
    rw [e1,e2,zhd (by omega) (by rw [yab];omega),<- yes,<- List.map_take]
    congr 2
    omega
   refine sq1 λR4 p4 => ?_;refine ea rfl (ea rfl ⟨_,_,rfl,rfl,.inl ⟨by decide,by decide⟩,_,_,rfl,rfl,_,rfl,ea rfl ⟨_,_,rfl,rfl,.inl ⟨by decide,by decide⟩,_,_,rfl,rfl,_,rfl,_,_,rfl,SqL.of I.n4,λl a1=>p4 ?_⟩⟩);dsimp only;rw [aY];have bE:((ds.drop (1+6*j)).take 6).length=6:=by rw [yaA,ybk];omega
   have a4:Nng ((ds.drop (1+6*j)).take 6):=λd hd=>bO d (ycX (ycu hd));generalize (ds.drop (1+6*j)).take 6=es at bE a4 ⊢;have s5:Same H4 (upd H4 l (.lst (es.map V.int))):=Same.new a1;have l5:(upd H4 l (.lst (es.map V.int))) l=some (.lst (es.map V.int)):=zab;generalize upd H4 l (.lst (es.map V.int))=G at s5 l5 ⊢;have I5:=I.same s5;refine sq1 λR5 p5 => ?_;have af:(0:Int) < ((ts.map V.ref).length:Int):=by rw [yab];have:=ok.1;omega
   obtain ⟨v,hv,i,hi,rfl⟩:=zeT (xs:=ts.map V.ref) (i:=es.getD (0:Int).toNat 0 % ((ts.map V.ref).length:Int)) (P:=λv=>∃ (i:Nat) (hi:i < ts.length),v = .ref ts[i]) (λv hv=>by
    obtain ⟨t,ht,rfl⟩:=yao.mp hv;obtain ⟨i,hi,e⟩:=ybo.mp ht;exact ⟨i,hi,by rw [e]⟩) (md0 _ af) (md1 _ af)
   refine ea rfl (ixTc (v := .ref tl) (SqT.of (I5.sm _ _ aN)) rfl (ea rfl (ixLc (SqL.of l5) (zaO (by decide) (by omega)) (ea rfl (ixTc (v := .ref tl) (SqT.of (I5.sm _ _ aN)) rfl ⟨_,_,rfl,.inl (SqL.of (I5.sm _ _ bc)),_,_,rfl,rfl,af,ixL (SqL.of (I5.sm _ _ bc)) hv (p5 ?_)⟩)))));have aV:i < tabs.length:=by omega
   have mt:tabs[i]∈tabs:=yam aV;have B:=ok.2.2.1 _ mt;obtain ⟨ca,qs,ht,br,hC,_⟩:=Paired.at hT i hi aV;refine sq1 λR6 p6 => ?_;have a3:cutV (es.map V.int) (some 1) (some 5)=((es.drop 1).take 4).map V.int:=by
    rw [show (1:Int)=((1:Nat):Int) from rfl,show (5:Int)=((5:Nat):Int) from rfl,zhd (by decide) (by rw [yab];omega),<- yes,<- List.map_take]
   refine ea rfl (ea rfl ⟨_,rfl,_,rfl,_,_,rfl,SqL.of l5,λl2 aG => ?_⟩);rw [a3];have s6:Same G (upd G l2 (.lst (((es.drop 1).take 4).map V.int))):=Same.new aG;have l6:(upd G l2 (.lst (((es.drop 1).take 4).map V.int))) l2=some (.lst (((es.drop 1).take 4).map V.int)):=zab;generalize upd G l2 (.lst (((es.drop 1).take 4).map V.int))=H6 at s6 l6 ⊢;have I6:=I5.same s6;refine ⟨ts[i],l2,ca,qs,tabs[i],_,rfl,I6.sm _ _ ht,I6.sm _ _ br,hC.same I6.sm,B,l6,?_,λd hd=>a4 d (ycX (ycu hd)),λr ks H7 s7 bo r7 hK=>p6 ?_⟩
   ·rw [yaA,ybk];have:=B.2.2.1;omega
   have I7:=I6.same s7;have l7:=s7 _ _ (s6 _ _ l5);have D7:MdOk H7 tabs d:=D.same I7.sm;clear s7 s6 s5 I6 I5 I bo l6 aG a1;refine sq1 λR7 p7 => ?_;refine ea rfl (ea rfl (ixTc (v := .str tabs[i].1) (SqT.of (I7.sm _ _ ht)) rfl ⟨d.a,_,rfl,zcC (.inl D7.at_.out) (zaw mt),d.f tabs[i].1,_,rfl,D7.at_.ins _ (zaw mt),by rw [zcK];exact (zel (keyKd B)).sub λk hk=>D7.rows.key mt hk,?_,λU Z bG pm sk=>p7 ?_⟩))
   ·unfold ksD;rw [yab];have:=D7.rows.len ok.2.2.1 mt;omega
   rw [zcK] at pm;have bD:∀ k∈Z,k∈univ (keyK tabs[i]):=λk hk=>D7.rows.key mt (pm.mem_iff.mp hk);have s8:Same H7 (upd H7 U (.lst (Z.map kV))):=Same.new bG;have k8:(upd H7 U (.lst (Z.map kV))) U=some (.lst (Z.map kV)):=zab;generalize upd H7 U (.lst (Z.map kV))=H8 at s8 k8 ⊢;have I8:=I7.same s8;have l8:=s8 _ _ l7;refine sqC (λσ H9=>∃ (r2:Addr) (R:List Key),σ = [some (.ref tt),some (.ref d.a),some (.int c),some (.ref N),some (.ref g),some (.int (0+(j:Int))),some (.ref l),some (.ref ts[i]),some (.ref r2),some (.ref U),ae]/\Same H8 H9/\H9 r2=some (.tup (R.map kV))/\RowK tabs[i].2 R) ?_ ?_
   ·rintro σ H9 ⟨r2,R,rfl,O,r9,K9⟩;obtain ⟨k,hk⟩:=K9.head B;have I9:=I8.same O;have l9:=O _ _ l8;have ap:RowAt H9 tabs[i].2 k r2:=⟨R,r9,K9,hk⟩;have D9:MdOk H9 tabs d:=D.same I9.sm;clear I8 I7 l8 l7 s8 k8 D7;refine sq1 λR8 p8 => ?_;refine ea rfl (ixLc (SqL.of l9) (zaO (by decide) (by omega)) ⟨_,_,rfl,rfl,⟨(show (0:Int) < 1024 by decide),(show (1024:Int) < 2 ^ 64 by decide)⟩,_,_,rfl,rfl,(show (0:Int) < 8 by decide),p8 ?_⟩);dsimp only;generalize es.getD (5:Int).toNat 0 / 1024 % 8=ad;have cH:([.str tabs[i].1,kV k]:List V)=([.inr tabs[i].1,k]:List Key).map kV:=rfl;have fw:∀ {n:Nat} {Y:Hp} {ws:List Wr},WI H tabs g N ds n Y ws->n<=1000->(fwD ws).length < yaO:=λh hn=>by
     unfold fwD;rw [yab];exact zai (by have:=h.le;omega)
    have F:∀ (Y:Hp) (n:Nat) (ws:List Wr) (az:Option Addr) (N2:L2.St->Hp->Prop),WI H tabs g N ds n Y ws->n<=1000->WOk Y tabs (tabs[i].1,k,az)->Y r2=some (.tup (R.map kV))->(∀ H' bA,WI H tabs g N ds (n+1) H' bA->(∀ b xs,Y b=some (.tup xs)->H' b=some (.tup xs))->N2 [some (.ref tt),some (.ref d.a),some (.int c),some (.ref N),some (.ref g),some (.int (0+(j:Int))),some (.ref l),some (.ref ts[i]),some (.ref r2),some (.ref U),some (.int ad)] H') ->
      (tVar 4) [some (.ref tt),some (.ref d.a),some (.int c),some (.ref N),some (.ref g),some (.int (0+(j:Int))),some (.ref l),some (.ref ts[i]),some (.ref r2),some (.ref U),some (.int ad)] Y λx H2=>(tTup (tCons (tOp (rIxT K) (tVar 7) (tC (.int 0))) (tCons (tOp (rIxT K) (tVar 8) (tC (.int 0))) tNil))) [some (.ref tt),some (.ref d.a),some (.int c),some (.ref N),some (.ref g),some (.int (0+(j:Int))),some (.ref l),some (.ref ts[i]),some (.ref r2),some (.ref U),some (.int ad)] H2 λy H3=>∃ a H4,x=V.ref a/\DPut H3 a y (adV az) H4/\N2 [some (.ref tt),some (.ref d.a),some (.int c),some (.ref N),some (.ref g),some (.int (0+(j:Int))),some (.ref l),some (.ref ts[i]),some (.ref r2),some (.ref U),some (.int ad)] H4:=by
     intro Y n ws az N2 Iy hn bB r9 next;refine ea rfl (ea rfl (ixTc (v := .str tabs[i].1) (SqT.of (Iy.sm _ _ ht)) rfl (ea rfl (ixTc (v:=kV k) (SqT.of r9) (zg2 hk) ⟨zah (show 2<=100000 by decide),λb hb => ?_⟩))));have o:Same Y (upd Y b (.tup [.str tabs[i].1,kV k])):=Same.new hb;have aR:(upd Y b (.tup [.str tabs[i].1,kV k])) b=some (.tup (([.inr tabs[i].1,k]:List Key).map kV)):=zab;generalize upd Y b (.tup [.str tabs[i].1,kV k])=ag at o aR ⊢;have ak:=Iy.same o;refine ⟨g,_,rfl,DPut.t ak.fa4 aR (fw ak (by omega)),next _ _ (ak.put fH (bB.keep λ_ _=>o _ _)) λb xs e => ?_⟩;exact (zaf (λz=>by have:=ak.fa4;rw [<- z,o _ _ e] at this;cases this)).trans (o _ _ e)
    refine sq1 λR9 p9 => ?_;refine ea rfl (F H9 (3*j) ws (some r2) _ I9 (by omega) ⟨tabs[i],mt,rfl,ap.univ,λr e=>by cases e;exact ap⟩ r9 λa8 aQ L aL=>p9 ?_);have as:=aL _ _ r9;refine sqC (λσ C=>∃ S,σ = [some (.ref tt),some (.ref d.a),some (.int c),some (.ref N),some (.ref g),some (.int (0+(j:Int))),some (.ref l),some (.ref ts[i]),some (.ref r2),some (.ref U),some (.int ad)]/\WI H tabs g N ds (3*j+2) C S/\C r2=some (.tup (R.map kV))) ?_ ?_
    ·rintro σ C ⟨S,rfl,m,aO⟩;have aq:MdOk C tabs d:=D.same m.sm;refine ea rfl ⟨rfl,ea rfl (ite2 (λz => ?_) (λz => ?_))⟩
     ·refine ea rfl (ea rfl (ixTc (v := .str tabs[i].1) (SqT.of (m.sm _ _ ht)) rfl ⟨d.a,_,rfl,zcC (.inl aq.at_.out) (zaw mt),d.f tabs[i].1,rfl,.inl ⟨_,.inl (aq.at_.ins _ (zaw mt))⟩,ea rfl (ixTc (v:=kV k) (SqT.of aO) (zg2 hk) ⟨_,DGet.k (aq.at_.ins _ (zaw mt)),?_⟩)⟩));rw [zbc,adV_get];refine F C (3*j+2) S (lk (d.rows tabs[i].1) k) _ m (by omega) ⟨tabs[i],mt,rfl,ap.univ,λr e=>(aq.rows _ mt).2 (k,r) (zeH e)⟩ aO λcv bR b0 _=>⟨_,_,_,_,_,_,bR,rfl,?_⟩;exact b0
     ·exact ⟨_,_,_,_,_,_,S,rfl,m.sm,m.fa4,m.n4,m.nd,yaY m.le (by omega),m.ok⟩
    ·intro N2 a2;refine ea rfl ⟨_,_,rfl,rfl,ea rfl (ite2 (λz => ?_) (λz => ?_))⟩
     ·exact F a8 (3*j+1) aQ none _ L (by omega) ⟨tabs[i],mt,rfl,ap.univ,λr e=>nomatch e⟩ as λC S m aH=>a2 _ _ ⟨S,rfl,m,aH _ _ as⟩
     ·exact a2 _ _ ⟨aQ,rfl,⟨L.sm,L.fa4,L.n4,L.nd,yaY L.le (by omega),L.ok⟩,as⟩
   ·intro N' a6;refine ea rfl ⟨yaW _,λe0 bt => ?_⟩;have O:Same H8 (upd H8 e0 (.lst [])):=Same.new bt;have e9:(upd H8 e0 (.lst [])) e0=some (.lst []):=zab;generalize upd H8 e0 (.lst [])=H9 at O e9 ⊢;have skip:∀ H',Same H8 H'->N' [some (.ref tt),some (.ref d.a),some (.int c),some (.ref N),some (.ref g),some (.int (0+(j:Int))),some (.ref l),some (.ref ts[i]),some (.ref r),some (.ref U),ae] H':=λH' s'=>a6 _ _ ⟨r,ks,rfl,s',s' _ _ (s8 _ _ r7),hK⟩;refine ⟨U,e0,_,_,rfl,rfl,SqL.of (O _ _ k8),SqL.of e9,keys_flat Z,rfl,ea rfl (ite2 (λz => ?_) (λz=>skip _ O))⟩;have cm:0 < Z.length:=by
     cases Z with
     | nil=>exact absurd z (by decide)
     | cons a b=>exact Nat.zero_lt_succ _
    have ah:(0:Int) < ((Z.map kV).length:Int):=by rw [yab];omega
    refine ea rfl (ixLc (SqL.of (O _ _ l8)) (zaO (by decide) (by omega)) ⟨_,_,rfl,rfl,(show (0:Int) < 2 by decide),rfl,ea rfl (ite2 (λy => ?_) (λy=>skip _ O))⟩);obtain ⟨v,hv,k,rfl,hk⟩:=zeT (xs:=Z.map kV) (i:=es.getD (5:Int).toNat 0 / 2 % ((Z.map kV).length:Int)) (P:=λv=>∃ k,v=kV k/\k∈Z) (λv hv=>by
     obtain ⟨k,hk,rfl⟩:=yao.mp hv;exact ⟨k,rfl,hk⟩) (md0 _ ah) (md1 _ ah)
    have cD:ks.length=tabs[i].2.length:=(yaC hK).symm;have l1:=B.2.1;have l4:=B.2.2.1;refine ea rfl (ea rfl (ixLc (SqL.of (O _ _ l8)) (zaO (by decide) (by omega)) ⟨_,_,rfl,rfl,⟨(show (0:Int) < 2 by decide),(show (2:Int) < 2 ^ 64 by decide)⟩,ea rfl ⟨_,_,rfl,.inl (SqL.of (O _ _ k8)),_,_,rfl,rfl,ah,ixL (SqL.of (O _ _ k8)) hv ⟨zah (show 1<=100000 by decide),λt1 bW => ?_⟩⟩⟩));have o:Same H9 (upd H9 t1 (.tup [kV k])):=Same.new bW;have a7:(upd H9 t1 (.tup [kV k])) t1=some (.tup [kV k]):=zab;generalize upd H9 t1 (.tup [kV k])=ag at o a7 ⊢;have bL:=o _ _ (O _ _ (s8 _ _ r7));have cutT:cutV (ks.map kV) (some 1) none=(ks.drop 1).map kV:=by
     rw [show (1:Int)=((1:Nat):Int) from rfl,cut_drop (by rw [yab];omega),yes]
    refine ea rfl ⟨_,rfl,r,_,rfl,SqT.of bL,?_,λt2 bS => ?_⟩
    ·rintro ⟨e,_⟩;have e2:HT.sIx (ks.map kV).length 0 (some ((1:Nat):Int))=0:=e;rw [HT.sIx_nat,yab] at e2;omega
    rw [cutT];have av:Same ag (upd ag t2 (.tup ((ks.drop 1).map kV))):=Same.new bS;have aM:(upd ag t2 (.tup ((ks.drop 1).map kV))) t2=some (.tup ((ks.drop 1).map kV)):=zab;generalize upd ag t2 (.tup ((ks.drop 1).map kV))=a8 at av aM ⊢;refine ⟨t1,t2,_,_,rfl,rfl,av _ _ a7,aM,zah ?_,λpr C bn bF=>a6 _ _ ⟨pr,k :: ks.drop 1,rfl,((O.trans o).trans av).trans bn,bF,hK.rekey (bD k hk) B⟩⟩;rw [yab,ybk];show 1+(ks.length - 1)<=100000;omega
  ·rintro σ H4 ⟨v5,v6,v7,v8,v9,ae,ws,rfl,I⟩;refine p3 ?_;have bu:ws.length<=12:=by have:=I.le;omega
   refine ea rfl ⟨g,_,rfl,I.fa4,λob W hW => ?_⟩;have nW:W≠g:=λz=>by rw [z,zab] at hW;cases hW
   have aA:H W=none:=I.sm.free (by have:=hW;rw [zaf nW] at this;exact this);refine zaH (J:=ItT g ob (fwD ws)) ws.length (λj τ G=>∃ (v1 v2:Option V) (u:List Addr),τ = [v1,v2,some (.ref g)]/\Same H G/\G g=some (.frz ob (.dT (fwD ws)))/\G W=some (.lst (u.map V.ref))/\WrAt G u (ws.take j)/\∀ w∈ws,WOk G tabs w)
    ?_ (λj τ G hj ⟨_,_,_,_,_,e,_⟩=>⟨e,by unfold fwD;rw [yab];exact hj⟩) (by rintro τ G ⟨_,_,_,_,_,e,_⟩;exact ⟨e,by unfold fwD;rw [yab];exact yaj _⟩) ?_ ?_
   ·have kt:∀ b xs,H4 b=some (.tup xs)->(upd (upd H4 g (.frz ob (.dT (fwD ws)))) W (.lst [])) b=some (.tup xs):=λb xs e=>by
     have n1:b≠g:=λz=>by rw [z,I.fa4] at e;cases e
     rw [zaf (λz=>by rw [<- z,zaf n1,e] at hW;cases hW),zaf n1];exact e
    exact ⟨none,none,[],rfl,(I.sm.upd fH).upd aA,by rw [zaf (ybt nW),zab],zab,.nil,λw hw=>(I.ok w hw).keep kt⟩
   ·rintro j τ G y H6 hj ⟨v1,v2,u,rfl,aB,f5,w5,A5,O5⟩ ⟨rfl,p,b,hp,rfl,hb⟩;have ep:p=([.inr ws[j].1,ws[j].2.1],adV ws[j].2.2):=by
     unfold fwD at hp;rw [yaf,yaa hj] at hp;exact (yaz hp).symm
    subst ep;have cu:u.length=j:=by
     have:=yaC A5;rw [yaA] at this;omega
    refine ⟨b,ea rfl ⟨SqT.of hb,rfl,_,ea rfl ⟨_,ea rfl ⟨rfl,?_⟩⟩⟩⟩;refine ea rfl (ea rfl (ea rfl (ea rfl (ea rfl ⟨zah (show 2<=100000 by decide),λb2 bQ => ?_⟩))));have s7:Same H6 (upd H6 b2 (.tup [kV (.inr ws[j].1),kV ws[j].2.1])):=Same.new bQ;have b7:(upd H6 b2 (.tup [kV (.inr ws[j].1),kV ws[j].2.1])) b2=some (.tup (([.inr ws[j].1,ws[j].2.1]:List Key).map kV)):=zab;generalize upd H6 b2 (.tup [kV (.inr ws[j].1),kV ws[j].2.1])=H7 at s7 b7 ⊢;refine ⟨g,_,rfl,.inr ⟨_,_,b2,.inr ⟨_,s7 _ _ f5⟩,rfl,b7,(fwD_val I.nd (yam hj)).symm⟩,zah (show 3<=100000 by decide),λt ht => ?_⟩;have s8:Same H7 (upd H7 t (.tup [kV (.inr ws[j].1),kV ws[j].2.1,adV ws[j].2.2])):=Same.new ht;have t8:(upd H7 t (.tup [kV (.inr ws[j].1),kV ws[j].2.1,adV ws[j].2.2])) t=some (.tup [kV (.inr ws[j].1),kV ws[j].2.1,adV ws[j].2.2]):=zab;generalize upd H7 t (.tup [kV (.inr ws[j].1),kV ws[j].2.1,adV ws[j].2.2])=H8 at s8 t8 ⊢;have S8:=s7.trans s8;have w8:=S8 _ _ w5;have kt:∀ b xs,H8 b=some (.tup xs)->(upd H8 W (.lst (u.map V.ref ++ [.ref t]))) b=some (.tup xs):=λb xs e=>(zaf (λz=>by rw [z,w8] at e;cases e)).trans e;refine ⟨_,w8,by rw [yab];exact zai (by omega),_,_,u ++ [t],rfl,(aB.trans S8).upd aA,(zaf (ybt nW)).trans (S8 _ _ f5),by rw [zab,yak];rfl,?_,λw hw=>((O5 w hw).keep λ_ _=>S8 _ _).keep kt⟩;rw [yb1,yaa hj];exact Paired.snoc (Paired.mapP A5 λ_ _ e=>kt _ _ (S8 _ _ e)) (kt _ _ t8)
   ·rintro τ G ⟨v1,v2,u,rfl,aB,f5,w5,A5,O5⟩;rw [yaG] at A5;exact q W u ws G aB aA w5 A5 bu I.nd O5
def lkW (ws:List Wr) (nm:Str) (k:Key) (o:Option Addr):Option Addr:=ws.foldl (λo w=>if nm=w.1/\k=w.2.1 then w.2.2 else o) o
def zfa:Sp:=λvs H Q _=>∃ (d:Md) (tabs:List Tab) (wl:Addr) (tps:List Addr) (ws:List Wr),vs = [.ref d.a,.ref wl]/\MdOk H tabs d/\zaY tabs/\H wl=some (.lst (tps.map V.ref))/\WrAt H tps ws/\(∀ w∈ws,WOk H tabs w) /\
 ∀ (d':Md) (H':Hp),Same H H'->MdNew H (tabs.map (·.1)) d'->MdOk H' tabs d'->(∀ t∈tabs,∀ k,lk (d'.rows t.1) k=lkW ws t.1 k (lk (d.rows t.1) k))->Q (.ref d'.a) H'
theorem Md.set_rows (d:Md) (nm:Str) (l:List (Key×Addr)) (n:Str):(d.set nm l).rows n=if n=nm then l else d.rows n:=rfl
theorem zfc (T:Txt K mg):FnOk P w K mg base CX0 1 T._law_behind.f T._law_behind.fd ["_law_model", "_law_writes_here"] zfa:=by
 refine T._law_behind.fn.ok sc__law_behind (λvs H Q E h => ?_) (λaZ A outer s H vs Q E hr h => ?_)
 ·obtain ⟨d,tabs,wl,L,ws,rfl,_⟩:=h;rfl
 ·obtain ⟨d,tabs,wl,L,ws,rfl,D,ok,aq,hW,hO,q⟩:=h;have R:=hu_of hr;have a1:=hr.units0;have ar:L.length=ws.length:=yaC hW;refine ⟨_,((zad (zas (i:=2) sc__law_behind.nd rfl (yaL rfl) zbo)
   (zad (zeo yaQ rfl (zeK (pv 0)) (zal (i:=3) sc__law_behind.nd rfl (yaL rfl)) (zag (zbu R (pv 2) (pv 3) (zaQ ziJ (by rfl) T.b_dict bt_dict (zaa (zaM R (pv 0) (pv 3) (λ_ _=>rfl)) zae)) rfl)))
   (zad (zaV yaQ rfl (zaA (K:=K) rfl (pv 1)) (zbe (K:=K) (n:=3) rfl rfl (zat ((zal (i:=3) sc__law_behind.nd rfl (yaL rfl))) (zat ((zal (i:=4) sc__law_behind.nd rfl (yaL rfl))) (zat ((zal (i:=5) sc__law_behind.nd rfl (yaL rfl))) zbj)))) (zad (zaI (pe_dpop2 (zaM R (pv 2) (pv 3) (λ_ _=>rfl)) (pv 4) zez ⟨rfl,rfl,rfl,rfl⟩))
   (zag (ps_if (zdg (zht (pv 5))) (zag (zbu R (zaM R (pv 2) (pv 3) (λ_ _=>rfl)) (pv 4) (pv 5) rfl)) zau))))
   (zag (zao (pv 2))))))),?_⟩
  refine sq1 λR1 p1 => ?_;refine λM hM=>p1 ?_;have s1:Same H (upd H M (.dK [])):=Same.new hM;have M1:(upd H M (.dK [])) M=some (.dK []):=zab;generalize upd H M (.dK [])=H1 at s1 M1 ⊢;have nM:M≠d.a:=λz=>by rw [z,D.at_.out] at hM;cases hM
  refine sqC (λm H2=>∃ (J:Option V) (c:Md),m = [some (.ref d.a),some (.ref wl),some (.ref M),J,none,none]/\Same H H2/\c.a=M/\MdNew H (tabs.map (·.1)) c/\MdOk H2 tabs c/\∀ t∈tabs,c.rows t.1=d.rows t.1) ?_ ?_
  ·rintro m H2 ⟨J,c,rfl,sm,rfl,new,D1,G⟩;refine sq1 λR2 p2 => ?_;refine ea rfl ⟨wl,rfl,⟨_,SqL.of (sm _ _ aq)⟩,?_⟩;refine za0 (K:=K) (a:=wl) (xs:=L.map V.ref) (λi m H3=>∃ (J v4 v5:Option V) (B:Md),m = [some (.ref d.a),some (.ref wl),some (.ref c.a),J,v4,v5]/\Same H H3/\B.a=c.a/\B.f=c.f/\MdOk H3 tabs B/\∀ t∈tabs,∀ k,lk (B.rows t.1) k=lkW (ws.take i) t.1 k (lk (d.rows t.1) k))
    ⟨J,none,none,c,rfl,sm,rfl,rfl,D1,λt C k=>by rw [G t C];rfl⟩ (by rintro i m H3 _ ⟨_,_,_,_,_,j,_⟩;exact SqL.of (j _ _ aq)) ?_ ?_
   ·rintro i x m H3 hx ⟨J,v4,v5,B,rfl,j,F,O,Y,ac⟩;have hi:i < L.length:=by
     have:=(List.getElem?_eq_some_iff.1 hx).1
     rwa [yab] at this
    have ai:i < ws.length:=by omega
    rw [yaf,yaa hi] at hx;cases hx;have tp:=j _ _ (Paired.at hW i hi ai);obtain ⟨t,C,e1,aV,ao⟩:=(hO _ (yam ai)).keep λ_ _=>j _ _;have nn:=zaw C;have ae:∀ (g:Md),g.f=c.f->H (g.f t.1)=none:=λg e=>by rw [e];exact new.2 _ nn
    refine ⟨L[i],ea rfl ⟨SqT.of tp,rfl,_,ea rfl ⟨_,ea rfl ⟨_,ea rfl ⟨rfl,?_⟩⟩⟩⟩⟩;have dg:∀ {Hy:Hp} {g:Md},g.a=c.a->MdOk Hy tabs g->DGet Hy c.a (.str ws[i].1) (some (.ref (g.f t.1))):=λS D3=>by
     rw [e1,<- S];exact zcC (.inl D3.at_.out) nn
    refine sqC (λm H4=>∃ (g:Md),m = [some (.ref d.a),some (.ref wl),some (.ref c.a),some (.str ws[i].1),some (kV ws[i].2.1),some (adV ws[i].2.2)]/\Same H H4/\g.a=c.a/\g.f=c.f/\MdOk H4 tabs g/\(∀ b xs,H3 b=some (.tup xs)->H4 b=some (.tup xs))/\∀ u∈tabs,∀ k,lk (g.rows u.1) k=if u.1=ws[i].1/\k=ws[i].2.1 then none else lk (B.rows u.1) k) ?_ ?_
    ·rintro m H4 ⟨g,rfl,ap,S,aj,D3,kt,ah⟩;have stp:∀ u∈tabs,∀ k,lkW (ws.take (i+1)) u.1 k (lk (d.rows u.1) k)=if u.1=ws[i].1/\k=ws[i].2.1 then ws[i].2.2 else lk (B.rows u.1) k:=λu W k=>by
      rw [yb1,yaa ai,ac u W k];unfold lkW;rw [yfJ];rfl
     refine ea rfl (ea rfl (ite2 (λz => ?_) (λz => ?_)))
     ·cases G:ws[i].2.2 with
      | none=>rw [G] at z;exact absurd z (by decide)
      | some r =>
       have rr:=(ao r G).keep kt;refine ea rfl (ea rfl (ea rfl ⟨c.a,_,rfl,dg S D3,ea rfl ⟨g.f t.1,_,rfl,DPut.k (k:=ws[i].2.1) (D3.at_.ins _ nn) ?_,?_⟩⟩))
       ·unfold ksD;rw [yab];exact zai (by have:=D3.rows.len ok.2.2.1 C;omega)
       rw [show (adV (some r))=V.ref r from rfl,zd9];refine ⟨_,_,_,g.set t.1 (putR (g.rows t.1) ws[i].2.1 r),rfl,ap.upd (ae g aj),S,aj,D3.set ok.2.2.2 C (zfQ (D3.rows _ C).1) λp hp => ?_,λu W k => ?_⟩
       ·rcases zif hp with rfl | hp
        ·exact rr
        ·exact (D3.rows _ C).2 p hp
       ·rw [stp u W k,Md.set_rows,G];by_cases e:u.1=t.1
        ·rw [if_pos e,lk_put,<- e,ah u W k];rw [<- e] at e1;by_cases y:k=ws[i].2.1
         ·rw [if_pos y,if_pos ⟨e1.symm,y⟩]
         ·rw [if_neg y,if_neg (λq=>y q.2),if_neg (λq=>y q.2)]
        ·rw [if_neg e,ah u W k,if_neg (λq=>e (q.1.trans e1)),if_neg (λq=>e (q.1.trans e1))]
     ·cases G:ws[i].2.2 with
      | some r=>rw [G] at z;exact absurd (by simp [adV]) z
      | none =>
       refine ⟨_,_,_,g,rfl,ap,S,aj,D3,λu W k => ?_⟩;rw [stp u W k,ah u W k,G]
    ·intro N hN;refine ea rfl (ea rfl ⟨c.a,_,rfl,dg F Y,B.f t.1,rfl,.inl ⟨_,.inl (Y.at_.ins _ nn)⟩,ea rfl ⟨_,ws[i].2.1,Y.at_.ins _ nn,rfl,λv hv=>hN _ _ ?_,λhv=>hN _ _ ?_⟩⟩)
     ·rw [ksD_dropR];refine ⟨B.set t.1 (dropR (B.rows t.1) ws[i].2.1),rfl,j.upd (ae B O),F,O,Y.set ok.2.2.2 C (zho (Y.rows _ C).1) (λp hp=>(Y.rows _ C).2 p (ye6.mp hp).1),λb xs e=>(zaf (λz=>by rw [z,Y.at_.ins _ nn] at e;cases e)).trans e,λu W k => ?_⟩;rw [Md.set_rows];by_cases e:u.1=t.1
      ·rw [if_pos e,lk_drop,<- e];rw [<- e] at e1;by_cases y:k=ws[i].2.1
       ·rw [if_pos y,if_pos ⟨e1.symm,y⟩]
       ·rw [if_neg y,if_neg (λq=>y q.2)]
      ·rw [if_neg e,if_neg (λq=>e (q.1.trans e1))]
     ·refine ⟨B,rfl,j,F,O,Y,λ_ _ e=>e,λu W k => ?_⟩;by_cases y:u.1=ws[i].1/\k=ws[i].2.1
      ·rw [if_pos y,y.2,y.1,e1];rw [zbc] at hv;cases e:lk (B.rows t.1) ws[i].2.1 with
       | none=>rfl
       | some r=>rw [e] at hv;cases hv
      ·rw [if_neg y]
   ·rintro m H3 ⟨J,v4,v5,B,rfl,j,F,O,Y,ac⟩;rw [yab,ar,yaG] at ac;refine p2 (ea rfl ?_);rw [<- F];exact q B H3 j ⟨by rw [F];exact new.1,λnm hn=>by rw [O];exact new.2 nm hn⟩ Y ac
  ·intro N hN;refine ea rfl ⟨d.a,_,rfl,s1 _ _ D.at_.out,λob aM => ?_⟩;refine zc7 (a:=d.a) (ob:=ob) (kvs:=nmD (tabs.map (·.1)) d.f) (λi m U=>∃ (J:Option V) (c:Md),m = [some (.ref d.a),some (.ref wl),some (.ref M),J,none,none]/\Ch1 d.a H U/\U d.a=some (.frz ob (.dK (nmD (tabs.map (·.1)) d.f)))/\c.a=M/\MdNew H ((tabs.take i).map (·.1)) c/\MdOk U (tabs.take i) c/\∀ t∈tabs.take i,c.rows t.1=d.rows t.1)
    ⟨none,⟨M,λ_=>M,λ_ => []⟩,rfl,(λb o n e=>(zaf n).trans (s1 _ _ e)),zab,rfl,⟨hM,λ_ z=>nomatch z⟩,⟨⟨(zaf nM).trans M1,(λ_ z=>nomatch z),(λ_ z=>nomatch z),(λ_ z=>nomatch z)⟩,λ_ z=>nomatch z⟩,λ_ z=>nomatch z⟩ (λi m U _ ⟨_,_,_,_,e,_⟩=>e) ?_ ?_
   ·rintro i p m U hp ⟨J,c,rfl,ch,I,rfl,new,D1,G⟩;obtain ⟨aa,rfl⟩:=nmD_at hp;have hi:i < tabs.length:=by rwa [yab] at aa
    have mt:tabs[i]∈tabs:=yam hi;have en:(tabs.map λt:Tab=>t.1)[i]'aa=tabs[i].1:=by rw [ybl]
    have tk:tabs.take (i+1)=tabs.take i ++ [tabs[i]]:=by rw [yb1,yaa hi];rfl
    have Z:tabs[i].1∉(tabs.take i).map (·.1):=by
     have an:((tabs.take (i+1)).map (·.1)).Nodup:=ok.2.2.2.sublist ((ydG _ _).map _);rw [tk,yak,ybq] at an;exact λz=>an.2.2 _ z _ (yai.mpr rfl) rfl
    have fx:U (d.f tabs[i].1)=some (.dK (ksD (d.rows tabs[i].1))):=ch _ _ (D.at_.ne _ (zaw mt)) (D.at_.ins _ (zaw mt));have dg:DGet U d.a (.str ((tabs.map λt:Tab=>t.1)[i]'aa)) (some (.ref (d.f tabs[i].1))):=by
     rw [en];exact zcC (.inr ⟨_,I⟩) (zaw mt)
    refine ea rfl (ea rfl ⟨d.a,_,rfl,dg,d.f tabs[i].1,_,rfl,fx,λl hl => ?_⟩);have fl:H l=none/\l≠d.a:=Ch1.none ch I hl;have m5:(upd U l (.dK (ksD (d.rows tabs[i].1)))) c.a=some (.dK (nmD ((tabs.take i).map (·.1)) c.f)):=(zaf (λz=>by rw [<- z,D1.at_.out] at hl;cases hl)).trans D1.at_.out;refine ea rfl (ea rfl ⟨c.a,_,rfl,DPut.k (k := .inr ((tabs.map λt:Tab=>t.1)[i]'aa)) m5 ?_,?_⟩)
    ·unfold nmD;rw [yab,yab];exact zai (by have:=List.length_take_le i tabs;have:=ok.2.1;omega)
    rw [en,zeg Z];have rr:∀ q∈d.rows tabs[i].1,RowAt U tabs[i].2 q.1 q.2:=λq hq=>((D.rows _ mt).2 q hq).keep λb xs e=>ch _ _ (λz=>by rw [z,D.at_.out] at e;cases e) e;have A7:=D1.add (t:=tabs[i]) (p:=l) (l:=d.rows tabs[i].1) Z hl (D.rows _ mt).1 rr;rw [<- tk] at A7;have e7:(tabs.take (i+1)).map (·.1)=(tabs.take i).map (·.1) ++ [tabs[i].1]:=by rw [tk,yak];rfl
    rw [e7] at A7;refine ⟨_,c.add tabs[i].1 l (d.rows tabs[i].1),rfl,λb o n e => ?_,?_,rfl,⟨new.1,λnm hn => ?_⟩,A7,λt C => ?_⟩
    ·rw [zaf (λz=>by rw [z,new.1] at e;cases e),zaf (λz=>by rw [z,fl.1] at e;cases e)];exact ch b o n e
    ·rw [zaf (ybt nM),zaf (ybt fl.2)];exact I
    ·show H (if nm=tabs[i].1 then l else c.f nm)=none;rw [e7] at hn;rcases yau.mp hn with z | z
     ·rw [if_neg (λy:nm=tabs[i].1=>Z (y ▸ z))];exact new.2 nm z
     ·rw [if_pos (yai.mp z)];exact fl.1
    ·show (if t.1=tabs[i].1 then d.rows tabs[i].1 else c.rows t.1)=d.rows t.1;rw [tk] at C;rcases yau.mp C with z | z
     ·rw [if_neg (λy:t.1=tabs[i].1=>Z (y ▸ zaw z))];exact G t z
     ·rw [yai.mp z,if_pos rfl]
   ·rintro m U ⟨J,c,rfl,ch,I,rfl,new,D1,G⟩;have el:(nmD (tabs.map (·.1)) d.f).length=tabs.length:=by unfold nmD;rw [yab,yab]
    rw [el,yaG] at new D1 G;refine ⟨d.a,ob,_,aM,I,hN _ _ ⟨J,c,rfl,λb o e => ?_,rfl,new,?_,G⟩⟩
    ·by_cases z:b=d.a
     ·rw [z,zab,<- e,z,D.at_.out]
     ·rw [zaf z];exact ch b o z e
    ·refine D1.keep (λb xs e=>(zaf (λz=>by rw [z,I] at e;cases e)).trans e) (λo e=>(zaf nM).trans e) λnm hn o e=>(zaf (λz => ?_)).trans e;have:=new.2 nm hn;rw [z,D.at_.out] at this;cases this
structure StOk (L:Int) (ss:List zax):Prop where
 fr:∀ s∈ss,s.1<=L
 en:∀ s∈ss,∀ e,s.2.1=some e->e<=L
 op:∀ s∈ss.dropLast,s.2.1≠none
theorem StOk.nil {L:Int}:StOk L []:=⟨λ_ z=>(nomatch z),λ_ z=>(nomatch z),λ_ z=>(nomatch z)⟩
theorem zfF {α:Type} {p q:α->Bool}:∀ {l:List α},(∀ x∈l,p x=q x)->l.find? p=l.find? q
 | [],_=>rfl
 | a :: l,h=>by
  rw [ybw,ybw,h a yax,zfF λx b=>h x (yal _ b)]
theorem StOk.next {L:Int} {ss:List zax} (h:StOk L ss):StOk (L+1) ss/\rowThen ss (L+1)=rowThen ss L:=by
 refine ⟨⟨λs hs=>by have:=h.fr s hs;omega,λs hs e c=>by have:=h.en s hs e c;omega,h.op⟩,?_⟩;unfold rowThen;rw [zfF λs hs => ?_];have a:=h.fr s hs;unfold lies upTo;rw [decide_eq_true a,decide_eq_true (show s.1<=L+1 by omega)];cases e:s.2.1 with
 | none=>rfl
 | some j =>
  have b:=h.en s hs j e;have c1:decide (L < j)=false:=decide_eq_false (by omega);have c2:decide (L+1 < j)=false:=decide_eq_false (by omega);simp only [c1,c2]
theorem zce (a b:List zax) (j:Int):rowThen (a++b) j=(rowThen a j).or (rowThen b j):=by
 unfold rowThen;rw [List.find?_append];cases a.find? (lies j) <;> rfl
theorem zhw (ss:List zax) (L:Int):(∃ i f r,ss=i ++ [(f,none,r)]/\close L ss=i ++ [(f,some L,r)])\/(close L ss=ss/\∀ i f r,ss≠i ++ [(f,none,r)]):=by
 rcases ydD ss with rfl | ⟨i,⟨f,o,r⟩,e⟩
 ·exact .inr ⟨rfl,λi f r z=>by have:=congrArg ycb z;simp at this⟩
 ·rw [ydE] at e;subst e;cases o with
  | none=>exact .inl ⟨i,f,r,rfl,zdM L i f r⟩
  | some j =>
   refine .inr ⟨zdP L i f j r,λc a b z => ?_⟩;have:=congrArg List.getLast? z;rw [ydP,ydP] at this;injection this with this;injection this with _ this;injection this with this;cases this
theorem StOk.shut {L:Int} {ss:List zax} (h:StOk L ss):StOk (L+1) (close (L+1) ss)/\(∀ s∈close (L+1) ss,s.2.1≠none)/\∀ j≤L,rowThen (close (L+1) ss) j=rowThen ss j:=by
 rcases zhw ss (L+1) with ⟨i,f,r,e,c⟩ | ⟨c,n⟩
 ·rw [c];subst e;have hi:∀ s∈i,s.2.1≠none:=λs hs=>h.op s (by rw [ydQ];exact hs);refine ⟨⟨λs hs => ?_,λs hs e a => ?_,λs hs => ?_⟩,λs hs => ?_,λj d => ?_⟩
  ·rcases yau.mp hs with z | z
   ·have:=h.fr s (ybe _ z);omega
   ·rw [yai.mp z];have:=h.fr (f,none,r) (yaN _ (yai.mpr rfl));show f<=L+1;have:f<=L:=this;omega
  ·rcases yau.mp hs with z | z
   ·have:=h.en s (ybe _ z) e a;omega
   ·rw [yai.mp z] at a;cases a;omega
  ·rw [ydQ] at hs;exact hi s hs
  ·rcases yau.mp hs with z | z
   ·exact hi s z
   ·rw [yai.mp z];exact λy=>nomatch y
  ·rw [zce,zce]
   congr 1
   unfold rowThen lies upTo;simp only [ybw,List.find?_nil];have:decide (j < L+1)=true:=decide_eq_true (by omega);rw [this];cases decide (f<=j) <;> rfl
 ·rw [c];refine ⟨h.next.1,λs hs => ?_,λ_ _=>rfl⟩;rcases ydD ss with rfl | ⟨i,⟨f,o,r⟩,e⟩
  ·cases hs
  ·rw [ydE] at e;subst e;rcases yau.mp hs with z | z
   ·exact h.op s (by rw [ydQ];exact z)
   ·rw [yai.mp z];intro y;have b:o=none:=y;subst b;exact n _ _ _ rfl
theorem StOk.wr {L:Int} {ss:List zax} (h:StOk L ss) (d:Option Addr):StOk (L+1) (wrS (L+1) ss d)/\(∀ j≤L,rowThen (wrS (L+1) ss d) j=rowThen ss j)/\rowThen (wrS (L+1) ss d) (L+1)=d:=by
 obtain ⟨a,b,c⟩:=h.shut;have f:rowThen (close (L+1) ss) (L+1)=none:=by
  unfold rowThen;rw [List.find?_eq_none.mpr λs hs => ?_]
  ·rfl
  ·cases e:s.2.1 with
   | none=>exact absurd e (b s hs)
   | some j =>
    have:=a.en s hs j e;unfold lies upTo;rw [e];simp only [ya9,decide_eq_true_eq];rintro ⟨_,y⟩;omega
 unfold wrS;cases d with
 | none =>
  show StOk (L+1) (close (L+1) ss ++ [])/\(∀ j≤L,rowThen (close (L+1) ss ++ []) j=rowThen ss j)/\rowThen (close (L+1) ss ++ []) (L+1)=none;rw [ych];exact ⟨a,c,f⟩
 | some r =>
  show StOk (L+1) (close (L+1) ss ++ [(L+1,none,r)])/\(∀ j≤L,rowThen (close (L+1) ss ++ [(L+1,none,r)]) j=rowThen ss j)/\rowThen (close (L+1) ss ++ [(L+1,none,r)]) (L+1)=some r;refine ⟨⟨λs hs => ?_,λs hs e g => ?_,λs hs => ?_⟩,λj i => ?_,?_⟩
  ·rcases yau.mp hs with z | z
   ·exact a.fr s z
   ·rw [yai.mp z];exact Int.le_refl _
  ·rcases yau.mp hs with z | z
   ·exact a.en s z e g
   ·rw [yai.mp z] at g;cases g
  ·rw [ydQ] at hs;exact b s hs
  ·rw [zce,c j i];have:rowThen [(L+1,none,r)] j=none:=by
    unfold rowThen lies upTo;simp only [ybw,List.find?_nil];have:decide (L+1<=j)=false:=decide_eq_false (by omega);rw [this];rfl
   rw [this];cases rowThen ss j <;> rfl
  ·rw [zce,f];unfold rowThen lies upTo;simp [ybw]
theorem zfZ {L:Int} {n:Str} {k:Key}:∀ {ws:List Wr},(∀ w∈ws,¬ (n=w.1/\k=w.2.1))->(∀ s,foldW L ws n k s=s)/\∀ o,lkW ws n k o=o
 | [],_=>⟨λ_=>rfl,λ_=>rfl⟩
 | w :: r,h=>by
  obtain ⟨a,b⟩:=zfZ (L:=L) (ws:=r) λv d=>h v (yal _ d);have c:=h w yax;refine ⟨λs => ?_,λo => ?_⟩
  ·show foldW L r n k (if n=w.1/\k=w.2.1 then wrS L s w.2.2 else s)=s;rw [if_neg c];exact a s
  ·show lkW r n k (if n=w.1/\k=w.2.1 then w.2.2 else o)=o;rw [if_neg c];exact b o
theorem StOk.fold {L:Int} {n:Str} {k:Key}:∀ {ws:List Wr} {ss:List zax},StOk L ss->WNd ws->StOk (L+1) (foldW (L+1) ws n k ss)/\(∀ j≤L,rowThen (foldW (L+1) ws n k ss) j=rowThen ss j)/\rowThen (foldW (L+1) ws n k ss) (L+1)=lkW ws n k (rowThen ss L)
 | [],ss,h,_=>⟨h.next.1,λ_ _=>rfl,h.next.2⟩
 | w :: r,ss,h,nd=>by
  unfold WNd at nd;rw [yaw,ybm] at nd;by_cases e:n=w.1/\k=w.2.1
  ·have f:∀ v∈r,¬ (n=v.1/\k=v.2.1):=λv g z=>nd.1 (yao.mpr ⟨v,g,by rw [<- e.1,<- e.2,<- z.1,<- z.2]⟩);obtain ⟨a,b⟩:=zfZ (L:=L+1) f;obtain ⟨c1,c2,c3⟩:=h.wr w.2.2;have c:foldW (L+1) (w :: r) n k ss=wrS (L+1) ss w.2.2:=by
    show foldW (L+1) r n k (if n=w.1/\k=w.2.1 then wrS (L+1) ss w.2.2 else ss)=_;rw [if_pos e,a]
   have d:lkW (w :: r) n k (rowThen ss L)=w.2.2:=by
    show lkW r n k (if n=w.1/\k=w.2.1 then w.2.2 else rowThen ss L)=_;rw [if_pos e,b]
   rw [c,d];exact ⟨c1,c2,c3⟩
  ·have c:foldW (L+1) (w :: r) n k ss=foldW (L+1) r n k ss:=by
    show foldW (L+1) r n k (if n=w.1/\k=w.2.1 then wrS (L+1) ss w.2.2 else ss)=_;rw [if_neg e]
   have d:lkW (w :: r) n k (rowThen ss L)=lkW r n k (rowThen ss L):=by
    show lkW r n k (if n=w.1/\k=w.2.1 then w.2.2 else rowThen ss L)=_;rw [if_neg e]
   rw [c,d];exact StOk.fold h nd.2
structure Off (Cs:Addr) (H:Hp) (m:MR) (a:Addr):Prop where
 own:m.own a=none
 dk:∃ kvs,H a=some (.dK kvs)
 dd:∀ dx tt oo dd,H m.sc=some (.ins Cs dx (scF tt oo dd))->dd≠a
theorem Mka.ch {C k l a:Addr} {H H':Hp} {m:MR} {tabs:List Tab} {f:List Col} (M:Mka C k H l m tabs f) (o:Off k H m a) (c:∀ b,b≠a->H' b=H b):Mka C k H' l m tabs f:=by
 obtain ⟨kvs,n⟩:=o.dk;have i:∀ b xs,H b=some (.tup xs)->H' b=some (.tup xs):=λb xs e=>(c b (λz=>by rw [z,n] at e;cases e)).trans e;have ms:Mks C H' l m:=M.ms.agree (λb r e=>c b (λz=>by rw [z,o.own] at e;cases e)) i;obtain ⟨dx,D,F,dd,ob,ts,cas,t,e,b,q,d,g,h⟩:=M.sc;have j:m.sc≠a:=λz=>by rw [z,n] at e;cases e
 have p:=(c _ j).trans e;refine ⟨ms,⟨dx,D,F,dd,ob,ts,cas,t,p,(c _ (λz=>by rw [z,n] at b;cases b)).trans b,⟨Paired.mapP q.1 ?_,q.2⟩,i _ _ d,Paired.mapP g λ_ _ z=>i _ _ z,(c _ (o.dd _ _ _ _ e)).trans h⟩,M.ok,M.n1,λA E v u z => ?_,M.nm,M.one⟩
 ·rintro _ _ ⟨B,x1,s,y⟩;exact ⟨B,i _ _ x1,i _ _ s,Paired.mapP y λ_ _ z=>i _ _ z⟩
 ·rw [c _ j] at z;exact M.n2 _ _ _ _ z
def zeB:Sp:=λvs H Q _=>∃ (tt tl ol t:Addr) (qs ex:List Addr) (d:Tab) (ords:List Col),vs = [.ref tt,.ref t]/\H tt=some (.tup [.ref tl,.ref ol])/\H ol=some (.lst (qs.map V.ref))/\ColsAt H qs ords/\TabL ex H t d/\okTab d.1 d.2 /\
 ∀ (l:Addr) (ps:List (Addr×Nat)) (H':Hp),Same H H'->H l=none->H' l=some (.lst (ps.map λp => .ref p.1))->(∀ p∈ps,∃ h:p.2 < d.2.length,H' p.1=some (.tup [.int p.2,.str d.2[p.2].1])/\hasO d ords (.str d.2[p.2].1)=true)->ps.length<=4->Q (.ref l) H'
theorem zeL (T:Txt K mg):FnOk P w K mg base CX0 1 T._law_ordered.f T._law_ordered.fd ["_law_told", "_law_table"] zeB:=by
 refine T._law_ordered.fn.ok sc__law_ordered (λvs H Q E h => ?_) (λaM A outer s H vs Q E hr h => ?_)
 ·obtain ⟨R,tl,ol,t,qs,ex,d,c,rfl,_⟩:=h;rfl
 ·obtain ⟨R,tl,ol,t,qs,ex,d,c,rfl,ai,ah,hO,⟨ca,cq,ht,L,hC,_⟩,ok,q⟩:=h;have am:=hu_of hr;have aN:=hr.units0;have cl:cq.length=d.2.length:=yaC hC;have l4:=ok.2.2.1;refine ⟨_,((zad (zew (i:=2) sc__law_ordered.nd rfl (yaL rfl) (N := ["_law_name", "_law_kind"]) (own:=2) (caps := []) rfl (by kernel_rfl) (by kernel_rfl) (zaA (K:=K) rfl (pe_ix (zak (K:=K) rfl) (pv 1) zac (λ_ _=>rfl))) (λ_ _ _ _ _=>(zbe (K:=K) (n:=2) rfl rfl (zat (zal (i:=0) (show List.Nodup (["_law_name", "_law_kind"]:List Str) by decide +kernel) rfl (yaL rfl)) (zat (zal (i:=1) (show List.Nodup (["_law_name", "_law_kind"]:List Str) by decide +kernel) rfl (yaL rfl)) zbj)))) (λ_ _ _ _ _=>zaW) (λ_ _ _ _ _=>(pv 0)))
   (zag (zao (za7 (N := ["_law_j", "_law_name", "_law_table", "_law_told"]) (own:=2) (caps := [1,0]) rfl (by kernel_rfl) (by kernel_rfl) (zg4 (K:=K) rfl rfl T.b_enumerate (zaa (pv 2) zae)) (λ_ _ _ _ _=>(zbe (K:=K) (n:=2) rfl rfl (zat (zal (i:=0) (show List.Nodup (["_law_j", "_law_name", "_law_table", "_law_told"]:List Str) by decide +kernel) rfl (yaL rfl)) (zat (zal (i:=1) (show List.Nodup (["_law_j", "_law_name", "_law_table", "_law_told"]:List Str) by decide +kernel) rfl (yaL rfl)) zbj)))) (λ_ _ _ _ _=>(pts_one (PW.pt (pw_or (zaz op_eq (pv 0) zac (zaD _)) (zcB (zaz (op_inP (K:=K) rfl am) (zaU (zaa (pe_ix (zak (K:=K) rfl) (pv 2) zac (λ_ _=>rfl)) (zaa (pv 1) zae))) (pe_ix (zak (K:=K) rfl) (pv 3) zac (λ_ _=>rfl)) (by with_unfolding_all rfl))))))) (λ_ _ _ _ _=>(zaU (zaa (pv 0) (zaa (pv 1) zae))))))))),?_⟩
  refine sq1 λR1 p1 => ?_;refine ea rfl (ixTc (v := .ref ca) (SqT.of ht) rfl ⟨ca,rfl,⟨_,SqL.of L⟩,λD hD => ?_⟩);refine zaH (J:=Itl K ca) cq.length (λj m I=>∃ (B F:Option V),m = [B,F]/\Same H I/\I D=some (.lst (((d.2.take j).map (·.1)).map V.str)))
   ?_ (λj m I o ⟨_,_,_,C,_⟩=>⟨_,.ref cq[j],SqL.of (C _ _ L),by rw [yaf,yaa o];rfl⟩) (by rintro m I ⟨_,_,_,C,_⟩;exact ⟨_,SqL.of (C _ _ L),by rw [yab];exact yaj _⟩) ?_ ?_
  ·exact ⟨none,none,rfl,Same.new hD,zab⟩
  ·rintro j m I y k o ⟨B,F,rfl,C,hd⟩ ⟨rfl,hy⟩;have hy:=hy _ (SqL.of (C _ _ L));rw [yaf,yaa o] at hy;cases hy;have W:j < d.2.length:=by omega
   have ag:=C _ _ (Paired.at hC j o W);refine ⟨cq[j],ea rfl ⟨SqT.of ag,rfl,_,ea rfl ⟨_,ea rfl ⟨rfl,?_⟩⟩⟩⟩;refine ea rfl ⟨_,hd,by rw [yab,yab,yaA];exact zai (by omega),_,_,rfl,C.upd hD,?_⟩;rw [zab,yb1,yaa W,yak,yak];rfl
  ·rintro m I ⟨B,F,rfl,C,hd⟩;rw [cl,yaG] at hd;refine p1 ?_;have nl:((d.2.map (·.1)).map V.str).length=d.2.length:=by rw [yab,yab]
   refine ea rfl ⟨D,rfl,⟨_,SqL.of hd⟩,λM hE => ?_⟩;refine zaH (J:=Ite K D) d.2.length (λj m k=>∃ (B F:Option V) (ps:List (Addr×Nat)),m = [B,F,some (.ref t),some (.ref R)]/\Same I k/\k M=some (.lst (ps.map λp => .ref p.1))/\ps.length<=j/\∀ p∈ps,∃ h:p.2 < d.2.length,k p.1=some (.tup [.int p.2,.str d.2[p.2].1])/\hasO d c (.str d.2[p.2].1)=true)
    ?_ (λj m k o ⟨_,_,_,_,G,_⟩=>⟨_,_,SqL.of (G _ _ hd),yaa (by rw [nl];exact o)⟩) (by rintro m k ⟨_,_,_,_,G,_⟩;exact ⟨_,SqL.of (G _ _ hd),by rw [nl];exact yaj _⟩) ?_ ?_
   ·exact ⟨none,none,[],rfl,Same.new hE,zab,yaj _,λ_ z=>nomatch z⟩
   ·rintro j m k y O o ⟨B,F,ps,rfl,G,e4,le,Z⟩ ⟨u,x,hu,rfl,rfl,hx⟩;have hx:=hx _ (SqL.of (G _ _ hd));rw [yaf,yaf,yaa o] at hx;cases hx;have U:Same k (upd k u (.tup [.int j,.str d.2[j].1])):=Same.new hu;have u5:(upd k u (.tup [.int j,.str d.2[j].1])) u=some (.tup [.int j,.str d.2[j].1]):=zab;generalize upd k u (.tup [.int j,.str d.2[j].1])=O at U u5 ⊢;have S5:Same H O:=(C.trans G).trans U;have nm:isNm d.2[j].1=true:=(ok.2.2.2.1 _ (yam o)).1;refine ⟨u,ea rfl ⟨SqT.of u5,rfl,_,ea rfl ⟨_,ea rfl ⟨rfl,?_⟩⟩⟩⟩;have Y:∀ g,Same O g->hasO d c (.str d.2[j].1)=true->(tTup (tCons (tVar 0) (tCons (tVar 1) tNil))) [some (.int j),some (.str d.2[j].1),some (.ref t),some (.ref R)] g λv S=>∃ xs,S M=some (.lst xs)/\xs.length < yaO/\∃ (B F:Option V) (ps:List (Addr×Nat)),[some (.int j),some (.str d.2[j].1),some (.ref t),some (.ref R)] = [B,F,some (.ref t),some (.ref R)]/\Same I (upd S M (.lst (xs ++ [v])))/\(upd S M (.lst (xs ++ [v]))) M=some (.lst (ps.map λp => .ref p.1))/\ps.length<=j+1/\∀ p∈ps,∃ h:p.2 < d.2.length,(upd S M (.lst (xs ++ [v]))) p.1=some (.tup [.int p.2,.str d.2[p.2].1])/\hasO d c (.str d.2[p.2].1)=true:=by
     intro g l ho;refine ea rfl (ea rfl ⟨zah (show 2<=100000 by decide),λp hp => ?_⟩);have s7:Same g (upd g p (.tup [.int j,.str d.2[j].1])):=Same.new hp;have p7:(upd g p (.tup [.int j,.str d.2[j].1])) p=some (.tup [.int j,.str d.2[j].1]):=zab;generalize upd g p (.tup [.int j,.str d.2[j].1])=S at s7 p7 ⊢;have S7:=(U.trans l).trans s7;have e7:=S7 _ _ e4;have kt:∀ b xs,S b=some (.tup xs)->(upd S M (.lst ((ps.map λp=>V.ref p.1) ++ [.ref p]))) b=some (.tup xs):=λb xs e=>(zaf (λz=>by rw [z,e7] at e;cases e)).trans e;refine ⟨_,e7,by rw [yab];exact zai (by omega),_,_,ps ++ [(p,j)],rfl,(G.trans S7).upd hE,by rw [zab,yak];rfl,by rw [yaK];exact yeX le,λr hr => ?_⟩;rcases yau.mp hr with z | z
     ·obtain ⟨h,a,b⟩:=Z r z;exact ⟨h,kt _ _ (S7 _ _ a),b⟩
     ·rw [yai.mp z];exact ⟨o,kt _ _ p7,ho⟩
    have no:∀ g,Same O g->∃ (B F:Option V) (ps:List (Addr×Nat)),[some (.int j),some (.str d.2[j].1),some (.ref t),some (.ref R)] = [B,F,some (V.ref t),some (.ref R)]/\Same I g/\g M=some (.lst (ps.map λp => .ref p.1))/\ps.length<=j+1/\∀ p∈ps,∃ h:p.2 < d.2.length,g p.1=some (.tup [.int p.2,.str d.2[p.2].1])/\hasO d c (.str d.2[p.2].1)=true:=λg l =>
     ⟨_,_,ps,rfl,(G.trans U).trans l,l _ _ (U _ _ e4),yfI le,λp hp=>let ⟨h,a,b⟩:=Z p hp;⟨h,l _ _ (U _ _ a),b⟩⟩
    refine ea rfl ⟨rfl,ea rfl (ite2 (λz => ?_) (λz => ?_))⟩
    ·have z0:j=0:=by
      have:=of_decide_eq_true z;injection this with this;omega
     refine Y O (λ_ _ e=>e) ?_;subst z0;show (isNm d.2[0].1&&(decide ((d.2.map (·.1)).head? = some d.2[0].1) || decide ((d.1,d.2[0].1)∈c)))=true;have hh:(d.2.map (·.1)).head? = some d.2[0].1:=by rw [List.head?_map,yew,yaa o];rfl
     rw [nm,hh];simp
    ·refine ea rfl (ixTc (v := .str d.1) (SqT.of (S5 _ _ ht)) rfl (ea rfl ⟨zah (show 2<=100000 by decide),λb hb => ?_⟩));have l:Same O (upd O b (.tup [.str d.1,.str d.2[j].1])):=Same.new hb;have b6:(upd O b (.tup [.str d.1,.str d.2[j].1])) b=some (.tup (prV (d.1,d.2[j].1))):=zab;generalize upd O b (.tup [.str d.1,.str d.2[j].1])=g at l b6 ⊢;refine ea rfl (ixTc (v := .ref ol) (SqT.of (l _ _ (S5 _ _ ai))) rfl ⟨b,ol,qs,c,(d.1,d.2[j].1),rfl,rfl,b6,.inr (SqL.of (l _ _ (S5 _ _ ah))),Paired.mapP hO λ_ _ e=>l _ _ (S5 _ _ e),ea rfl (ite2 (λy => ?_) (λy=>no g l))⟩);refine Y g l ?_;show (isNm d.2[j].1&&(decide ((d.2.map (·.1)).head? = some d.2[j].1) || decide ((d.1,d.2[j].1)∈c)))=true;rw [nm,y];simp
   ·rintro m k ⟨B,F,ps,rfl,G,e4,le,Z⟩;exact q M ps k (C.trans G) (C.free hE) e4 Z (by omega)
structure TR (C Cs:Addr) (H:Hp) (mk tt t rd:Addr) (j:Int) (m:MR) (tabs:List Tab) (ords:List Col) (d:Tab) (rows:List (Key×Addr)):Prop where
 M:Mka C Cs H mk m tabs ords
 mem:d∈tabs
 told:∃ tl ol qs,H tt=some (.tup [.ref tl,.ref ol])/\H ol=some (.lst (qs.map V.ref))/\ColsAt H qs ords
 tab:∃ ex,TabL ex H t d
 j0:0<=j
 j1:j<=m.L
 hrd:H rd=some (.dK (ksD rows))
 off:Off Cs H m rd
 nd:(rows.map (·.1)).Nodup
 ra:∀ p∈rows,RowAt H d.2 p.1 p.2
 hlk:∀ k,rowThen (m.ss d.1 k) j=lk rows k
def zcV (C Cs:Addr):Sp:=λvs H Q _=>∃ (mk tt t rd:Addr) (j:Int) (m:MR) (tabs:List Tab) (ords:List Col) (d:Tab) (rows:List (Key×Addr)),vs = [.ref mk,.ref tt,.int j,.ref t,.ref rd]/\TR C Cs H mk tt t rd j m tabs ords d rows/\∀ H',Same H H'->Q (.bl true) H'
def unK:V->Key
 | .int i => .inl i
 | .str x => .inr x
 | _ => .inl 0
theorem unK_kV (k:Key):unK (kV k)=k:=by cases k <;> rfl
def rcH (H:Hp) (r:Addr):List Key:=match H r with
 | some (.tup xs)=>xs.map unK
 | _ => []
theorem rcH_of {H:Hp} {r:Addr} {ks:List Key} (h:H r=some (.tup (ks.map kV))):rcH H r=ks:=by
 unfold rcH;rw [h];show (ks.map kV).map unK=ks;rw [yaU];have:unK ∘ kV=id:=by funext k;exact unK_kV k
 rw [this,List.map_id]
theorem Off.same {c a:Addr} {H H':Hp} {m:MR} {C j:Addr} {tabs:List Tab} {b:List Col} (M:Mka C c H j m tabs b) (o:Off c H m a) (s:Same H H'):Off c H' m a:=by
 obtain ⟨kvs,h⟩:=o.dk;refine ⟨o.own,⟨kvs,s _ _ h⟩,λdx l n dd e => ?_⟩;obtain ⟨i,k,g,f,ob,ts,cas,p,d,_⟩:=M.sc;have:=o.dd _ _ _ _ d;rw [s _ _ d] at e;have z:=zdn e;rw [<- z];exact this
theorem fm_filter {b:List Key} {f:Key->Option Addr}:b.filterMap f=(b.filter λk=>(f k).isSome).filterMap f:=by
 induction b with
 | nil=>rfl
 | cons a r c =>
  cases e:f a with
  | none=>rw [yb9,e,ydf (by simp [e]),c]
  | some x=>rw [ydg (by simp [e]),yb9,yb9,e,c]
section
variable {C Cs mk tt t rd:Addr} {H H':Hp} {j:Int} {m:MR} {tabs:List Tab} {ords:List Col} {d:Tab} {rows:List (Key×Addr)}
theorem TR.same (h:TR C Cs H mk tt t rd j m tabs ords d rows) (s:Same H H'):TR C Cs H' mk tt t rd j m tabs ords d rows :=
 ⟨h.M.same s,h.mem,let ⟨tl,ol,qs,a,b,c⟩:=h.told;⟨tl,ol,qs,s _ _ a,s _ _ b,c.same s⟩,let ⟨ex,a⟩:=h.tab;⟨ex,a.same s⟩,h.j0,h.j1,s _ _ h.hrd,h.off.same h.M s,h.nd,λp e=>(h.ra p e).keep λ_ _=>s _ _,h.hlk⟩
theorem TR.nm (h:TR C Cs H mk tt t rd j m tabs ords d rows):d.1∈m.names:=by rw [h.M.nm];exact zaw h.mem
theorem TR.due (h:TR C Cs H mk tt t rd j m tabs ords d rows) {ms ns:List Key} (p1:ms.Perm ((m.ks d.1).map (·.1))) (c:zbA ms) (b:ns.Perm (rows.map (·.1))) (e:zbA ns) :
  (ms.filterMap λk=>rowThen (m.ss d.1 k) j)=ns.filterMap λk=>lk rows k:=by
 have f:(λk=>rowThen (m.ss d.1 k) j)=λk=>lk rows k:=by funext k;exact h.hlk k
 rw [f,fm_filter];rw [zhk p1 b c e (h.M.ms.kn _ h.nm) h.nd (λk a => ?_) (λk => ?_)]
 ·have:lk rows k≠none:=λz=>(lk_none.mp z) a;rw [<- h.hlk k] at this;by_cases y:k∈(m.ks d.1).map (·.1)
  ·exact y
  ·rw [h.M.ms.s0 _ h.nm k y] at this;exact absurd rfl this
 ·constructor
  ·intro z;by_cases y:k∈rows.map (·.1)
   ·exact y
   ·rw [lk_none.mpr y] at z;cases z
  ·intro z;cases y:lk rows k with
   | none=>exact absurd z (lk_none.mp y)
   | some r=>rfl
theorem TR.lenR (h:TR C Cs H mk tt t rd j m tabs ords d rows):rows.length<=63:=by
 have a:=h.M.ok.2.2.1 d h.mem;have:=h.nd.length_le_of_subset (l₂:=univ (keyK d)) λk c=>by
  obtain ⟨p,b,e⟩:=yao.mp c;rw [<- e];exact (h.ra p b).univ
 rw [yab] at this;exact yaY this (zed (keyKd a))
theorem TR.one (h:TR C Cs H mk tt t rd j m tabs ords d rows):oneK (rows.map (·.1)):=(zel (keyKd (h.M.ok.2.2.1 d h.mem))).sub λk b=>by
 obtain ⟨p,a,e⟩:=yao.mp b;rw [<- e];exact (h.ra p a).univ
theorem TR.frz (h:TR C Cs H mk tt t rd j m tabs ords d rows) {x:HO}:Mka C Cs (upd H rd x) mk m tabs ords:=h.M.ch h.off λb n=>zaf n
end
theorem Thing.key {K:PySem.W.Frag} {H:Hp} {s:Str} {k:Key} (a:okKd s) (h:k∈univ s):Thing K H (kV k):=by
 cases k with
 | inl i=>exact Thing.int i
 | inr x =>
  have v:=zd8 a _ h;rcases a with rfl | rfl
  ·rw [zbR] at v;cases v
  ·rw [zcI] at v;exact Thing.str (zdR v)
theorem zdm (ks:List Key):∀ v∈ks.map kV,SameV v:=λv a=>by
 obtain ⟨k,_,rfl⟩:=yao.mp a;cases k with
 | inl i=>exact .inr ⟨rfl,by simp [eqV,kV]⟩
 | inr x=>exact .inr ⟨rfl,by simp [eqV,kV]⟩
def dueR (H:Hp) (rows:List (Key×Addr)) (ns:List Key):List (Addr×List Key):=(ns.filterMap λk=>lk rows k).map λr=>(r,rcH H r)
theorem zc3 (T:Txt K mg):FnOk P w K mg base CX0 7 T._law_table_right.f T._law_table_right.fd ["_law_makes", "_law_told", "_law_make", "_law_table", "_law_rows"] (zcV T.C_Makes T.C_Schema):=by
 refine T._law_table_right.fn.ok sc__law_table_right (λvs H Q E h => ?_) (λcf A outer s H vs Q E G h => ?_)
 ·obtain ⟨S,tt,t,C,j,m,tabs,l,d,rows,rfl,_⟩:=h;rfl
 ·obtain ⟨S,tt,t,C,j,m,tabs,l,d,rows,rfl,R,q⟩:=h;have Z:=hu_of G;have aS:=G.units0;have W:=R.M.ok.2.2.1 d R.mem;obtain ⟨tl,ol,qs,bd,ba,hO⟩:=R.told;obtain ⟨ex,ca,cq,ht,bc,hC,bj⟩:=R.tab;have lr:=R.lenR;refine ⟨_,((zad (zew (i:=5) sc__law_table_right.nd rfl (yaL rfl) (N := ["_law_key", "_law_rows"]) (own:=1) (caps := [4]) rfl (by kernel_rfl) (by kernel_rfl) (zaA (K:=K) rfl (zap (zcd rfl) (by rfl) T.b_sorted zcq (zaa (pv 4) zae))) (λ_ _ _ _ _=>zal (i:=0) (show List.Nodup (["_law_key", "_law_rows"]:List Str) by decide +kernel) rfl (yaL rfl)) (λ_ _ _ _ _=>zaW) (λ_ _ _ _ _=>(zaM Z (pv 1) (pv 0) (λ_ _=>rfl))))
   (zad (zaV yaQ rfl (zbd rfl T.b_range (zaa zac zae)) (zal (i:=6) sc__law_table_right.nd rfl (yaL rfl)) (zad (zas (i:=7) sc__law_table_right.nd rfl (yaL rfl) (zaP T.l_Makes (zbx T) (G.mono (by decide)) (pv 0) (zaa (pv 2) (zaa (pe_ix (zak (K:=K) rfl) (pv 3) zac (λ_ _=>rfl)) zae))))
   (zad (ps_if (PW.pt (pw_or (zbb (za8 (zap (za1 (K:=K) rfl) (by rfl) T.b_isinstance zaF (zaa (pv 7) (zaa (zbH (v := .ty "list") rfl T.b_list zen rfl) zae))))) (zcB (zaz (OpR.or (op_neLI (K:=K) rfl aS) (zgT (K:=K) rfl Z)) (pv 7) (pv 5) (zaD _))))) (zag (zao pe_bl)) zau)
   (zag (zaI (zdG (K:=K) rfl ya3 ydh ydi zee (pv 7)))))))
   (zad (zeo yaQ rfl (zeK (pv 4)) (zal (i:=8) sc__law_table_right.nd rfl (yaL rfl)) (zag (ps_if (zaz (op_neI (K:=K) rfl Z) (zaP T.l_Makes (zct T) (G.mono (by decide)) (pv 0) (zaa (pv 2) (zaa (pe_ix (zak (K:=K) rfl) (pv 3) zac (λ_ _=>rfl)) (zaa (pv 8) zae)))) (zaM Z (pv 4) (pv 8) (λ_ _=>rfl)) (zaD _)) (zag (zao pe_bl)) zau)))
   (zad (zaV yaQ rfl (zaA (K:=K) rfl (zaq (zeL T) (G.mono (by decide)) rfl (zaa (pv 1) (zaa (pv 3) zae)))) (zbe (K:=K) (n:=2) rfl rfl (zat ((zal (i:=9) sc__law_table_right.nd rfl (Or.inr rfl))) (zat ((zal (i:=10) sc__law_table_right.nd rfl (yaL rfl))) zbj))) (zad (zas (i:=11) sc__law_table_right.nd rfl (yaL rfl) (zap (zdW (K:=K) rfl) (by rfl) T.b_sorted zcq (zaa (za7 (N := ["_law_row_here", "_law_j"]) (own:=1) (caps := [9]) rfl (by kernel_rfl) (by kernel_rfl) (zaA (K:=K) rfl (pv 5)) (λ_ _ _ _ _=>zal (i:=0) (show List.Nodup (["_law_row_here", "_law_j"]:List Str) by decide +kernel) rfl (yaL rfl)) (λ_ _ _ _ _=>zaW) (λ_ _ _ _ _=>(zaU (zaa (pe_ix (zak (K:=K) rfl) (pv 0) (pv 1) (λ_ _=>rfl)) (zaa (pe_ix (zak (K:=K) rfl) (pv 0) zac (λ_ _=>rfl)) zae))))) zae)))
   (zag (zaV yaQ rfl (zbd rfl T.b_range (zaa zac zae)) (zal (i:=6) sc__law_table_right.nd rfl (yaL rfl)) (zad (zas (i:=7) sc__law_table_right.nd rfl (yaL rfl) (zaP T.l_Makes (zdI T) (G.mono (by decide)) (pv 0) (zaa (pv 2) (zaa (pe_ix (zak (K:=K) rfl) (pv 3) zac (λ_ _=>rfl)) (zaa (pv 10) zae)))))
   (zad (ps_if (PW.pt (pw_or (zbb (za8 (zap (za1 (K:=K) rfl) (by rfl) T.b_isinstance zaF (zaa (pv 7) (zaa (zbH (v := .ty "list") rfl T.b_list zen rfl) zae))))) (zcB (zaz (OpR.or (op_neLI (K:=K) rfl aS) (zgT (K:=K) rfl Z)) (pv 7) (pv 11) (zaD _))))) (zag (zao pe_bl)) zau)
   (zag (zaI (zdG (K:=K) rfl ya3 ydh ydi zee (pv 7))))))))))
   (zag (zao pe_bl))))))),?_⟩
  refine sq1 λR1 p1 => ?_;refine ea rfl ⟨C,_,rfl,R.hrd,by rw [zcK];exact R.one,by unfold ksD;rw [yab];omega,λl0 ns aV pn sn=>⟨l0,rfl,⟨_,SqL.of zab⟩,λD hD => ?_⟩⟩;rw [zcK] at pn;have s1:Same H (upd H l0 (.lst (ns.map kV))):=Same.new aV;have l1:(upd H l0 (.lst (ns.map kV))) l0=some (.lst (ns.map kV)):=zab;generalize upd H l0 (.lst (ns.map kV))=H1 at s1 l1 hD ⊢;have aW:ns.length<=63:=by rw [pn.length_eq,yab];exact lr
  have ao:∀ k∈ns,∃ r,lk rows k=some r:=λk hk=>by
   cases e:lk rows k with
   | none=>exact absurd (pn.mem_iff.mp hk) (lk_none.mp e)
   | some r=>exact ⟨r,rfl⟩
  refine zaH (J:=Itl K l0) ns.length (λi Y H3=>∃ (v1:Option V),Y = [v1,some (.ref C)]/\Same H1 H3/\H3 D=some (.lst (((ns.take i).filterMap λk=>lk rows k).map V.ref)))
   ⟨none,rfl,Same.new hD,zab⟩ (λi Y H3 hi ⟨_,_,sm,_⟩=>⟨_,kV ns[i],SqL.of (sm _ _ l1),by rw [yaf,yaa hi];rfl⟩) (by rintro Y H3 ⟨_,_,sm,_⟩;exact ⟨_,SqL.of (sm _ _ l1),by rw [yab];exact yaj _⟩) ?_ ?_
  ·rintro i Y H3 y H4 hi ⟨v1,rfl,sm,hd⟩ ⟨rfl,hy⟩;have hy:=hy _ (SqL.of (sm _ _ l1));rw [yaf,yaa hi] at hy;cases hy;obtain ⟨r,er⟩:=ao _ (yam hi);refine ea rfl (ea rfl ⟨C,.ref r,rfl,.inl ⟨_,ns[i],.inl (sm _ _ (s1 _ _ R.hrd)),rfl,by rw [zbc,er];rfl⟩,_,hd,?_,_,rfl,sm.upd hD,?_⟩)
   ·rw [yab];exact zai (by have:=yee (λk=>lk rows k) (ns.take i);rw [yaA] at this;omega)
   ·rw [zab,yb1,yaa hi,List.filterMap_append,yak];show _=some (HO.lst (_++(List.filterMap (λk=>lk rows k) [ns[i]]).map V.ref));rw [yb9,er];rfl
  ·rintro Y H3 ⟨v1,rfl,sm,hd⟩;rw [yaG] at hd;refine p1 ?_;have S3:Same H H3:=s1.trans sm;have cj:H D=none:=s1.free hD;clear v1 sm l1 hD aV s1;refine sqC (λB H4=>∃ (L I:Option V),B = [some (.ref S),some (.ref tt),some (.int j),some (.ref t),some (.ref C),some (.ref D),L,I,none,none,none,none]/\Same H3 H4) ?_ ?_
   ·rintro B H4 ⟨L,I,rfl,s4⟩;have S4:=S3.trans s4;have R4:=R.same S4;have d4:=s4 _ _ hd;refine sqC (λB H5=>∃ (v8:Option V),B = [some (.ref S),some (.ref tt),some (.int j),some (.ref t),some (.ref C),some (.ref D),L,I,v8,none,none,none]/\Same H4 H5) ?_ ?_
    ·rintro B H5 ⟨v8,rfl,s5⟩;have S5:=S4.trans s5;have R5:=R.same S5;have d5:=s5 _ _ d4;refine sq1 λR6 p6 => ?_;refine ea rfl (ea rfl ⟨tt,tl,ol,t,qs,ex,d,l,rfl,S5 _ _ bd,S5 _ _ ba,hO.same S5,(TabL.same ⟨ca,cq,ht,bc,hC,bj⟩ S5),W,λlo ps H6 s6 cp e6 al le=>⟨lo,rfl,⟨_,SqL.of e6⟩,?_⟩⟩);refine za0 (K:=K) (a:=lo) (xs:=ps.map λp=>V.ref p.1) (λi B H7=>∃ (L I v9 as ap:Option V),B = [some (.ref S),some (.ref tt),some (.int j),some (.ref t),some (.ref C),some (.ref D),L,I,v8,v9,as,ap]/\Same H6 H7)
      ⟨L,I,none,none,none,rfl,λ_ _ e=>e⟩ (by rintro i B H7 _ ⟨_,_,_,_,_,_,s7⟩;exact SqL.of (s7 _ _ e6)) ?_ ?_
     ·rintro i x B H7 hx ⟨aY,aM,v9,as,ap,rfl,s7⟩;have hi:i < ps.length:=by
       have:=(List.getElem?_eq_some_iff.1 hx).1
       rwa [yab] at this
      rw [yaf,yaa hi] at hx;cases hx;obtain ⟨hc,tp,ho⟩:=al _ (yam hi);have S7:=(S5.trans s6).trans s7;have R7:=R.same S7;have d7:=s7 _ _ (s6 _ _ d5);generalize ps[i].2=c at hc tp ho;refine ⟨ps[i].1,ea rfl ⟨SqT.of (s7 _ _ tp),rfl,_,ea rfl ⟨_,ea rfl ⟨rfl,?_⟩⟩⟩⟩;have rr:∀ r∈dueR H rows ns,H r.1=some (.tup (r.2.map kV))/\zay (kindsOf d.2) r.2=true:=λr G=>by
       obtain ⟨a,ha,rfl⟩:=yao.mp G;obtain ⟨k,_,ek⟩:=yco.mp ha;obtain ⟨ks,O,aB,_⟩:=R.ra _ (zeH ek);rw [rcH_of O];exact ⟨O,aB.kinds W.2.2.2.1⟩
      have dl:(dueR H rows ns).length<=63:=by
       unfold dueR;rw [yab];exact yaY (yee ..) aW
      have af:H7 D=some (.lst ((dueR H rows ns).map λr=>V.ref r.1)):=by
       rw [d7];unfold dueR;rw [yaU];rfl
      refine sq1 λR8 p8 => ?_;refine ea rfl ⟨D,rfl,⟨_,SqL.of af⟩,λD2 aQ => ?_⟩;refine zaH (J:=Itl K D) (dueR H rows ns).length (λk Y H8=>∃ (v:Option V) (out:List (Addr×List Key)),Y = [v,some (.int c)]/\PkOk H7 H8 D2 c (dueR H rows ns) k out) ⟨none,[],rfl,Same.new aQ,zab,(λ_ z=>nomatch z),rfl⟩
       (λk Y H8 hk ⟨_,_,_,o⟩=>⟨_,.ref (dueR H rows ns)[k].1,SqL.of (o.same _ _ af),by rw [yaf,yaa hk];rfl⟩)
       (by rintro Y H8 ⟨_,_,_,o⟩;exact ⟨_,SqL.of (o.same _ _ af),by rw [yab];exact yaj _⟩) ?_ ?_
      ·rintro k Y H8 y H9 hk ⟨v,out,rfl,o⟩ ⟨rfl,hy⟩;have ey:=hy _ (SqL.of (o.same _ _ af));rw [yaf,yaa hk] at ey;cases ey;obtain ⟨ag,bn⟩:=rr _ (yam hk);have ag:=o.same _ _ (S7 _ _ ag);have aI:(dueR H rows ns)[k].2.length=d.2.length:=by rw [zbk bn,kindsOf,yab]
       have l1:=W.2.1;refine ea rfl (ea rfl (ixT (SqT.of ag) (zie (by omega)) (ea rfl (ixTc (SqT.of ag) (zie (j:=0) (by omega)) ⟨zah (show 2<=100000 by decide),λt8 br => ?_⟩))));have s8:Same H9 (upd H9 t8 (.tup ((pick2 c (dueR H rows ns)[k].2).map kV))):=Same.new br;have u8:upd H9 t8 (.tup ((pick2 c (dueR H rows ns)[k].2).map kV)) t8=some (.tup ((pick2 c (dueR H rows ns)[k].2).map kV)):=zab;have d8:=s8 _ _ o.at_;refine ⟨_,d8,?_,_,out ++ [(t8,pick2 c (dueR H rows ns)[k].2)],rfl,λb u e => ?_,?_,λr G => ?_,?_⟩
       ·have:=congrArg ycb o.are;rw [yab,yab,yaA] at this;rw [yab];exact zai (by omega)
       ·rw [zaf (zar e aQ)];exact s8 _ _ (o.same _ _ e)
       ·rw [zab,yak];rfl
       ·rw [zaf ?_]
        ·rcases yau.mp G with z | z
         ·exact s8 _ _ (o.pairs r z)
         ·rw [yai.mp z];exact u8
        ·rcases yau.mp G with z | z
         ·exact ne_of (s8 _ _ (o.pairs r z)) d8 (λz=>nomatch z)
         ·rw [yai.mp z];exact ne_of u8 d8 (λz=>nomatch z)
       ·rw [yak,o.are,yap hk,yak];rfl
      ·rintro Y H8 ⟨v,out,rfl,o⟩;have are:=o.are;rw [yaG] at are;have bY:out.length=(dueR H rows ns).length:=by
        have:=congrArg ycb are
        rwa [yab,yab] at this
       have l0:0 < d.2.length:=W.2.1;refine ⟨D2,out,decide (d.2[c].2=("number" : Str)),[decide (d.2[0].2=("number" : Str))],rfl,SqL.of o.at_,λr G=>⟨SqT.of (o.pairs r G),?_⟩,by omega,λl2 g bq pm so=>p8 ?_⟩
       ·have:r.2∈(dueR H rows ns).map λr=>pick2 c r.2:=by
         rw [<- are];exact yao.mpr ⟨r,G,rfl⟩
        obtain ⟨r',bh,e⟩:=yao.mp this;rw [<- e];have k':=(rr r' bh).2;have aI:r'.2.length=d.2.length:=by rw [zbk k',kindsOf,yab]
        have gt:∀ a (ha:a < d.2.length),zay [decide (d.2[a].2=("number" : Str))] [r'.2.getD a (.inl 0)]=true:=λa ha=>by
         refine zcJ (j:=a) k' ?_ ?_
         ·rw [kindsOf,yaf,yaa ha];rfl
         ·rw [yaT,yaa (by omega)];rfl
        exact ze7 (gt c hc) (gt 0 l0)
       have s9:Same H8 (upd H8 l2 (.lst (g.map λr=>V.ref r.1))):=Same.new bq;have l9:(upd H8 l2 (.lst (g.map λr=>V.ref r.1))) l2=some (.lst (g.map λr=>V.ref r.1)):=zab;generalize upd H8 l2 (.lst (g.map λr=>V.ref r.1))=H9 at s9 l9 ⊢;have S9:Same H7 H9:=o.same.trans s9;have bb:zfY H9 g:=λr G=>s9 _ _ (o.pairs r (pm.mem_iff.mp G));have aN:(g.map (·.2)).Perm ((dueR H rows ns).map λr=>pick2 c r.2):=by
        rw [<- are];exact pm.map _
       have bp:(g.map (·.2)).Pairwise λx y=>zaG y x=false:=by
        rw [ydL];exact so
       obtain ⟨ix,ar,aq⟩:=ybo.mp R.mem;refine ⟨_,rfl,by decide,by decide,zbs (lo:=0) (n:=2) (λa B Ha=>∃ (L I:Option V),B = [some (.ref S),some (.ref tt),some (.int j),some (.ref t),some (.ref C),some (.ref D),L,I,v8,some (.int c),some (.str d.2[c].1),some (.ref l2)]/\Same H9 Ha) ⟨aY,aM,rfl,λ_ _ e=>e⟩ ?_ ?_⟩
       ·rintro a B Ha _ ⟨L,I,rfl,U⟩;have Sa:Same H Ha:=(S7.trans S9).trans U;have Ra:=R.same Sa;refine sq1 λRb pb => ?_;subst aq;refine ea rfl ⟨S,_,_,rfl,Ra.M.ms.obj,by kernel_rfl,ea rfl (ea rfl (ixTc (v := .str tabs[ix].1) (SqT.of (Sa _ _ ht)) rfl (ea rfl ⟨S,m,tabs,l,j,ix,ar,c,hc,rcH H,rfl,Ra.M,R.j0,R.j1,ho,λk r e => ?_,λl3 Hb ms o3 au sb aA an e3 bg av=>pb ?_⟩)))⟩
        ·rw [R.hlk k] at e;obtain ⟨ks,O,aB,_⟩:=R.ra _ (zeH e);rw [rcH_of O];exact ⟨Sa _ _ O,aB.kinds W.2.2.2.1⟩
        have due:(ms.filterMap λk=>rowThen (m.ss tabs[ix].1 k) j)=ns.filterMap λk=>lk rows k:=R.due aA an pn sn;rw [due] at av;have aU:o3.map (·.2)=g.map (·.2):=zc2 (lt:=zaG) (λa b=>zbT) (av.1.trans aN.symm) av.2 bp;have len3:o3.length=g.length:=by
         have:=congrArg ycb aU
         rwa [yab,yab] at this
        refine sq1 λRc pc => ?_;refine ea rfl ⟨_,_,_,_,rfl,.lst e3,zbS,ea rfl (ea rfl (ea rfl (.inr ⟨l3,l2,o3,g,rfl,rfl,SqL.of e3,SqL.of (sb _ _ (U _ _ l9)),λr G=>SqT.of (bg r G),λr G=>SqT.of (sb _ _ (U _ _ (bb r G))),len3,ea rfl ?_⟩)))⟩;have ne:decide (o3.map (·.2)≠g.map (·.2))=false:=decide_eq_false λz=>z aU;rw [ne];refine iteF (pc ?_);exact ea rfl ⟨.inl ⟨rfl,_,SqL.of e3⟩,l3,_,rfl,rfl,e3,_,_,rfl,(U.trans sb).upd (U.free au)⟩
       ·rintro B Ha ⟨L,I,rfl,U⟩;exact ⟨L,I,_,_,_,rfl,(s7.trans S9).trans U⟩
     ·rintro B H7 ⟨aY,aM,v9,as,ap,rfl,s7⟩;exact p6 (q H7 ((S5.trans s6).trans s7))
    ·intro N hN;refine ea rfl ⟨C,_,rfl,R4.hrd,λob bB => ?_⟩;have aL:okKd (keyK d):=keyKd W;obtain ⟨ix,ar,aq⟩:=ybo.mp R.mem;refine zc7 (a:=C) (ob:=ob) (kvs:=ksD rows) (λi B Hx=>∃ (v8:Option V),B = [some (.ref S),some (.ref tt),some (.int j),some (.ref t),some (.ref C),some (.ref D),L,I,v8,none,none,none]/\Ch1 C H4 Hx/\Hx C=some (.frz ob (.dK (ksD rows)))/\Mka T.C_Makes T.C_Schema Hx S m tabs l)
      ⟨none,rfl,(λb o n e=>(zaf n).trans e),zab,R4.frz⟩ (λi B Hx _ ⟨_,_,_,e,_⟩=>e) ?_ ?_
     ·rintro i p B Hx hp ⟨v8,rfl,ch,frz,Mx⟩;have hi:i < rows.length:=by
       have:=(List.getElem?_eq_some_iff.1 hp).1;unfold ksD at this
       rwa [yab] at this
      have ep:p=(rows[i].1,.ref rows[i].2):=by
       unfold ksD at hp;rw [yaf,yaa hi] at hp;exact (yaz hp).symm
      subst ep;have mem:=yam hi;have ra:=R.ra _ mem;have ku:rows[i].1∈univ (keyK d):=ra.univ;obtain ⟨ks,O,_,_⟩:=ra;have aO:lk rows rows[i].1=some rows[i].2:=lk_of R.nd mem;have kt:∀ b xs,H b=some (.tup xs)->Hx b=some (.tup xs):=λb xs e=>ch _ _ (λz=>by rw [z,R.hrd] at e;cases e) (S4 _ _ e);have nx:∀ H',Same Hx H'->∃ (v8:Option V),[some (.ref S),some (.ref tt),some (.int j),some (.ref t),some (.ref C),some (.ref D),L,I,some (kV rows[i].1),none,none,none] = [some (V.ref S),some (.ref tt),some (.int j),some (.ref t),some (.ref C),some (.ref D),L,I,v8,none,none,none]/\Ch1 C H4 H'/\H' C=some (.frz ob (.dK (ksD rows)))/\Mka T.C_Makes T.C_Schema H' S m tabs l:=λH' s'=>⟨_,rfl,ch.trans (Ch1.of s'),s' _ _ frz,Mx.same s'⟩;subst aq;refine ea rfl ⟨S,_,_,rfl,Mx.ms.obj,by kernel_rfl,ea rfl (ea rfl (ixTc (v := .str tabs[ix].1) (SqT.of (kt _ _ ht)) rfl (ea rfl ⟨S,m,tabs,l,j,ix,ar,_,rfl,Mx,R.j0,R.j1,Thing.key aL ku,λz => ?_,λ_=>⟨_,rfl,λHy sy => ?_⟩⟩)))⟩
      ·rw [zd8 aL _ ku] at z;cases z
      rw [R.hlk,aO];refine ea rfl (ea rfl ⟨C,.ref rows[i].2,rfl,.inl ⟨_,rows[i].1,.inr ⟨_,sy _ _ frz⟩,rfl,by rw [zbc,aO];rfl⟩,rows[i].2,rows[i].2,ks.map kV,rfl,rfl,SqT.of (sy _ _ (kt _ _ O)),SqT.of (sy _ _ (kt _ _ O)),zdm ks,ea rfl ?_⟩);exact iteF (nx Hy sy)
     ·rintro B Hx ⟨v8,rfl,ch,frz,Mx⟩;refine ⟨C,ob,_,bB,frz,hN _ _ ⟨v8,rfl,λb o e => ?_⟩⟩;by_cases z:b=C
      ·rw [z,zab,<- e,z,R4.hrd]
      ·rw [zaf z];exact ch b o z e
   ·intro N hN;refine ⟨_,rfl,by decide,by decide,zbs (lo:=0) (n:=2) (λa B Ha=>∃ (L I:Option V),B = [some (.ref S),some (.ref tt),some (.int j),some (.ref t),some (.ref C),some (.ref D),L,I,none,none,none,none]/\Same H3 Ha) ⟨none,none,rfl,λ_ _ e=>e⟩ ?_ ?_⟩
    ·rintro a B Ha _ ⟨L,I,rfl,U⟩;have Sa:Same H Ha:=S3.trans U;have Ra:=R.same Sa;refine sq1 λRb pb => ?_;refine ea rfl ⟨S,_,_,rfl,Ra.M.ms.obj,by kernel_rfl,ea rfl (ea rfl (ixTc (v := .str d.1) (SqT.of (Sa _ _ ht)) rfl ⟨S,m,tabs,l,j,_,rfl,Ra.M,R.j0,R.j1,R.nm,λl3 Hb ms au sb aA an e3=>pb ?_⟩))⟩;have due:(ms.filterMap λk=>rowThen (m.ss d.1 k) j)=ns.filterMap λk=>lk rows k:=R.due aA an pn sn;rw [due] at e3;refine sq1 λRc pc => ?_;refine ea rfl ⟨_,_,_,_,rfl,.lst e3,zbS,ea rfl (ea rfl (ea rfl (.inl ⟨l3,D,_,rfl,rfl,SqL.of e3,SqL.of (sb _ _ (U _ _ hd)),λv hv => ?_,ea rfl (iteF (pc ?_))⟩)))⟩
     ·obtain ⟨r,_,rfl⟩:=yao.mp hv;exact .inl ⟨r,rfl⟩
     ·exact ea rfl ⟨.inl ⟨rfl,_,SqL.of e3⟩,l3,_,rfl,rfl,e3,_,_,rfl,(U.trans sb).upd (U.free au)⟩
    ·rintro B Ha ⟨L,I,rfl,U⟩;exact hN _ _ ⟨L,I,rfl,U⟩
structure MdT (C Cs:Addr) (H:Hp) (mk tt:Addr) (j:Int) (d:Md) (m:MR) (tabs:List Tab) (ords:List Col):Prop where
 M:Mka C Cs H mk m tabs ords
 told:∃ tl ol ts qs ex,H tt=some (.tup [.ref tl,.ref ol])/\H tl=some (.lst (ts.map V.ref))/\TabsL ex H ts tabs/\H ol=some (.lst (qs.map V.ref))/\ColsAt H qs ords
 j0:0<=j
 j1:j<=m.L
 D:MdOk H tabs d
 off:∀ t∈tabs,Off Cs H m (d.f t.1)
 lnk:∀ t∈tabs,∀ k,rowThen (m.ss t.1 k) j=lk (d.rows t.1) k
section
variable {C Cs mk tt:Addr} {H H':Hp} {j:Int} {d:Md} {m:MR} {tabs:List Tab} {ords:List Col}
theorem MdT.same (h:MdT C Cs H mk tt j d m tabs ords) (s:Same H H'):MdT C Cs H' mk tt j d m tabs ords :=
 ⟨h.M.same s,let ⟨tl,ol,ts,qs,ex,a,b,c,e,f⟩:=h.told;⟨tl,ol,ts,qs,ex,s _ _ a,s _ _ b,c.same s,s _ _ e,f.same s⟩,h.j0,h.j1,h.D.same s,λt g=>(h.off t g).same h.M s,h.lnk⟩
theorem MdT.tr (h:MdT C Cs H mk tt j d m tabs ords) {t:Tab} {g:Addr} {ex:List Addr} (b:t∈tabs) (c:TabL ex H g t):TR C Cs H mk tt g (d.f t.1) j m tabs ords t (d.rows t.1) :=
 ⟨h.M,b,let ⟨tl,ol,_,qs,_,a,_,_,e,f⟩:=h.told;⟨tl,ol,qs,a,e,f⟩,⟨ex,c⟩,h.j0,h.j1,h.D.at_.ins _ (zaw b),h.off t b,(h.D.rows t b).1,(h.D.rows t b).2,h.lnk t b⟩
end
def zdk (C Cs:Addr):Sp:=λvs H Q _=>∃ (mk tt:Addr) (j:Int) (d:Md) (m:MR) (tabs:List Tab) (ords:List Col),vs = [.ref mk,.ref tt,.int j,.ref d.a]/\MdT C Cs H mk tt j d m tabs ords/\∀ H',Same H H'->Q (.bl true) H'
theorem zaX (T:Txt K mg):FnOk P w K mg base CX0 8 T._law_make_right.f T._law_make_right.fd ["_law_makes", "_law_told", "_law_make", "_law_model"] (zdk T.C_Makes T.C_Schema):=by
 refine T._law_make_right.fn.ok sc__law_make_right (λvs H Q E h => ?_) (λL A outer s H vs Q E F h => ?_)
 ·obtain ⟨r,z,j,d,m,tabs,b,rfl,_⟩:=h;rfl
 ·obtain ⟨r,z,j,d,m,tabs,b,rfl,R,q⟩:=h;have B:=hu_of F;obtain ⟨y,W,ts,qs,ex,u,l,I,O,hO⟩:=R.told;have G:ts.length=tabs.length:=yaC I;refine ⟨_,((zad (zaV yaQ rfl (zaA (K:=K) rfl (pe_ix (zak (K:=K) rfl) (pv 1) zac (λ_ _=>rfl))) (zal (i:=4) sc__law_make_right.nd rfl (yaL rfl)) (zag (ps_if (zbb (za8 (zaq (zc3 T) (F.mono (by decide)) rfl (zaa (pv 0) (zaa (pv 1) (zaa (pv 2) (zaa (pv 4) (zaa (zaM B (pv 3) (pe_ix (zak (K:=K) rfl) (pv 4) zac (λ_ _=>rfl)) (λ_ _=>rfl)) zae)))))))) (zag (zao pe_bl)) zau)))
   (zag (zao pe_bl)))),?_⟩
  refine sq1 λR1 p1 => ?_;refine ea rfl (ixTc (v := .ref y) (SqT.of u) rfl ⟨y,rfl,⟨_,SqL.of l⟩,?_⟩);refine za0 (K:=K) (a:=y) (xs:=ts.map V.ref) (λi n g=>∃ (o:Option V),n = [some (.ref r),some (.ref z),some (.int j),some (.ref d.a),o]/\Same H g) ⟨none,rfl,λ_ _ e=>e⟩ (by rintro i n g _ ⟨_,_,c⟩;exact SqL.of (c _ _ l)) ?_ ?_
  ·rintro i x n g t ⟨o,rfl,c⟩;have hi:i < ts.length:=by
    have:=(List.getElem?_eq_some_iff.1 t).1
    rwa [yab] at this
   rw [yaf,yaa hi] at t;cases t;have k:i < tabs.length:=by omega
   have mt:tabs[i]∈tabs:=yam k;have J:=R.same c;have C:TabL ex g ts[i] tabs[i]:=(Paired.at I i hi k).same c;have p:=C;obtain ⟨Y,cq,N,S,hC,M⟩:=p;refine ea rfl (ea rfl (ea rfl (ea rfl (ea rfl (ea rfl (ixTc (v := .str tabs[i].1) (SqT.of N) rfl ⟨d.a,_,rfl,zcC (.inl J.D.at_.out) (zaw mt),r,z,ts[i],d.f tabs[i].1,j,m,tabs,b,tabs[i],d.rows tabs[i].1,rfl,J.tr mt C,λZ U=>ea rfl ?_⟩))))));exact iteF ⟨_,rfl,c.trans U⟩
  ·rintro n g ⟨o,rfl,c⟩;exact p1 (q g c)
inductive OddK (H:Hp):V->Prop where
 | key (k:Key) (h:∀ x,k = .inr x->x.length<=1000):OddK H (kV k)
 | bl (b:Bool):OddK H (.bl b)
 | non:OddK H .non
 | tup (t:Addr) (e:H t=some (.tup (([.inl 1]:List Key).map kV))):OddK H (.ref t)
theorem OddK.thing {K:PySem.W.Frag} {H:Hp} {x:V} (h:OddK H x):Thing K H x:=by
 cases h with
 | key k h =>
  cases k with
  | inl i=>exact Thing.int i
  | inr x=>exact Thing.str (h x rfl)
 | bl b=>exact ⟨⟨_,.bl b,.inr (.inl rfl)⟩,λx e=>nomatch e⟩
 | non=>exact ⟨⟨_,.non,.inl rfl⟩,λx e=>nomatch e⟩
 | tup t e=>exact ⟨⟨_,.tup e,.inr (.inr (.inr (.inr (.inr (.inl rfl)))))⟩,λx e=>nomatch e⟩
theorem isVal_odd {s:Str} {x:V} (h1:∀ k,x≠kV k):isVal s x=false:=by
 unfold isVal;split
 ·cases x with
  | int i=>exact absurd rfl (h1 (.inl i))
  | _=>rfl
 ·cases x with
  | str y=>exact absurd rfl (h1 (.inr y))
  | _=>rfl
theorem isVal_key {s:Str} {x:V} (h:isVal s x=true):∃ k,x=kV k:=by
 cases x with
 | int i=>exact ⟨.inl i,rfl⟩
 | str y=>exact ⟨.inr y,rfl⟩
 | _=>rw [isVal_odd (λk=>by cases k <;> (intro z;cases z))] at h;cases h
def oddL (tp:Addr):List V := [.int 7,.int (-3),.int 0,.bl true,.bl false,.non,.str "a",.str "b",.str "aa",.str "zz",.int (10 ^ (20:Int).toNat),.str "A",.ref tp]
theorem oddL_all {tp:Addr} {H:Hp} (e:H tp=some (.tup (([.inl 1]:List Key).map kV))):∀ v∈oddL tp,OddK H v:=by
 intro v a;simp only [oddL,yaJ,yb7,or_false] at a;have st:∀ x:Str,x.length<=1000->OddK H (.str x):=λx b => .key (.inr x) λy e=>by cases e;exact b
 have it:∀ n:Int,OddK H (.int n):=λn => .key (.inl n) λy e=>nomatch e;rcases a with rfl | rfl | rfl | rfl | rfl | rfl | rfl | rfl | rfl | rfl | rfl | rfl | rfl
 ·exact it _
 ·exact it _
 ·exact it _
 ·exact .bl _
 ·exact .bl _
 ·exact .non
 ·exact st _ (by decide +kernel)
 ·exact st _ (by decide +kernel)
 ·exact st _ (by decide +kernel)
 ·exact st _ (by decide +kernel)
 ·exact it _
 ·exact st _ (by decide +kernel)
 ·exact .tup tp e
def zfo (C Cs:Addr):Sp:=λvs H Q _=>∃ (mk tt:Addr) (j:Int) (d:Md) (m:MR) (tabs:List Tab) (ords:List Col),vs = [.ref mk,.ref tt,.int j,.ref d.a]/\MdT C Cs H mk tt j d m tabs ords/\∀ H',Same H H'->Q (.bl true) H'
theorem zfr (T:Txt K mg):FnOk P w K mg base CX0 6 T._law_no_row.f T._law_no_row.fd ["_law_makes", "_law_told", "_law_make", "_law_model"] (zfo T.C_Makes T.C_Schema):=by
 refine T._law_no_row.fn.ok sc__law_no_row (λvs H Q E h => ?_) (λaL A outer s H vs Q E hr h => ?_)
 ·obtain ⟨C,S,j,d,m,tabs,u,rfl,_⟩:=h;rfl
 ·obtain ⟨C,S,j,d,m,tabs,u,rfl,R,q⟩:=h;have p:=hu_of hr;obtain ⟨tl,ol,ts,qs,ex,ah,ae,hT,aE,hO⟩:=R.told;have au:ts.length=tabs.length:=yaC hT;refine ⟨_,((zad (zaV yaQ rfl (zaA (K:=K) rfl (pe_ix (zak (K:=K) rfl) (pv 1) zac (λ_ _=>rfl))) (zal (i:=4) sc__law_no_row.nd rfl (yaL rfl)) (zad (zas (i:=5) sc__law_no_row.nd rfl (yaL rfl) (zaM p (pv 3) (pe_ix (zak (K:=K) rfl) (pv 4) zac (λ_ _=>rfl)) (λ_ _=>rfl)))
   (zag (zaV yaQ rfl (zaA (K:=K) rfl (za3 (zaa zac (zaa (pe_un zcS zac) (zaa zac (zaa pe_bl (zaa pe_bl (zaa zez (pa_s4 (zaa (pe_op zfO zac zac) (zaa zbE (zaa (zaU (zaa zac zae)) zae)))))))))))) (zal (i:=6) sc__law_no_row.nd rfl (yaL rfl)) (zad (zas (i:=7) sc__law_no_row.nd rfl (yaL rfl) zez)
   (zad (ps_if (PW.pt (zgn (zdg (pc_dinX (K:=K) p (pv 6) (pv 5))) (zeP (zbb (za8 (zap (za1 (K:=K) rfl) (by rfl) T.b_isinstance zaF (zaa (pv 6) (zaa (zbH (v := .ty "bool") rfl T.b_bool zhm rfl) zae)))))))) (zag (zas (i:=7) sc__law_no_row.nd rfl (yaL rfl) (zaM p (pv 5) (pv 6) (λ_ _=>rfl)))) zau)
   (zag (ps_if (zaz (OpR.or op_ne (op_neI (K:=K) rfl p)) (zaP T.l_Makes (zct T) (hr.mono (by decide)) (pv 0) (zaa (pv 2) (zaa (pe_ix (zak (K:=K) rfl) (pv 4) zac (λ_ _=>rfl)) (zaa (pv 6) zae)))) (pv 7) (zaD _)) (zag (zao pe_bl)) zau))))))))
   (zag (zao pe_bl)))),?_⟩
  refine sq1 λR1 p1 => ?_;refine ea rfl (ixTc (v := .ref tl) (SqT.of ah) rfl ⟨tl,rfl,⟨_,SqL.of ae⟩,?_⟩);refine za0 (K:=K) (a:=tl) (xs:=ts.map V.ref) (λi g I=>∃ (v4 v5 G B:Option V),g = [some (.ref C),some (.ref S),some (.int j),some (.ref d.a),v4,v5,G,B]/\Same H I) ⟨none,none,none,none,rfl,λ_ _ e=>e⟩ (by rintro i g I _ ⟨_,_,_,_,_,O⟩;exact SqL.of (O _ _ ae)) ?_ ?_
  ·rintro i x g I U ⟨v4,v5,G,B,rfl,O⟩;have hi:i < ts.length:=by
    have:=(List.getElem?_eq_some_iff.1 U).1
    rwa [yab] at this
   rw [yaf,yaa hi] at U;cases U;have J:i < tabs.length:=by omega
   have mt:tabs[i]∈tabs:=yam J;have af:=R.M.ok.2.2.1 _ mt;have Rx:=R.same O;obtain ⟨ca,cq,ht,aF,hC,aI⟩:=(Paired.at hT i hi J).same O;refine sq1 λR2 p2 => ?_;refine ea rfl (ea rfl (ixTc (v := .str tabs[i].1) (SqT.of ht) rfl ⟨d.a,_,rfl,zcC (.inl Rx.D.at_.out) (zaw mt),p2 ?_⟩));refine ⟨_,rfl,_,_,rfl,rfl,⟨by decide,by decide,by decide⟩,zah (show 1<=100000 by decide),λtp am=>⟨zah (show 13<=100000 by decide),λL hL => ?_⟩⟩;have ap:tp≠L:=λz=>by rw [<- z,zab] at hL;cases hL
   refine ⟨L,rfl,⟨oddL tp,SqL.of zab⟩,za0 (K:=K) (a:=L) (xs:=oddL tp) (λa g F=>∃ (G B:Option V),g = [some (.ref C),some (.ref S),some (.int j),some (.ref d.a),some (.ref ts[i]),some (.ref (d.f tabs[i].1)),G,B]/\Same I F/\F L=some (.lst (oddL tp))/\F tp=some (.tup (([.inl 1]:List Key).map kV)))
    ⟨G,B,rfl,(Same.new am).trans (Same.new hL),zab,(zaf ap).trans zab⟩ (by rintro a g F _ ⟨_,_,_,_,h,_⟩;exact SqL.of h) ?_ ?_⟩
   ·rintro a x g F U ⟨aq,ak,rfl,sa,La,ta⟩;have aa:=oddL_all ta x (ycV U);have Ra:=Rx.same sa;have Z:=Ra.D.at_.ins _ (zaw mt);clear U;refine sq1 λR3 p3=>p3 ?_;refine sqC (λg Hb=>∃ o:Option Addr,g = [some (.ref C),some (.ref S),some (.int j),some (.ref d.a),some (.ref ts[i]),some (.ref (d.f tabs[i].1)),some x,some (adV o)]/\Hb=F/\((∃ k,x=kV k/\o=lk (d.rows tabs[i].1) k)\/((∀ k,x≠kV k)/\o=none))) ?_ ?_
    ·rintro g Hb ⟨o,rfl,rfl,w2⟩;have c:∀ l,Same Hb l->∃ (G B:Option V),[some (.ref C),some (.ref S),some (.int j),some (.ref d.a),some (.ref ts[i]),some (.ref (d.f tabs[i].1)),some x,some (adV o)] = [some (V.ref C),some (.ref S),some (.int j),some (.ref d.a),some (.ref ts[i]),some (.ref (d.f tabs[i].1)),G,B]/\Same I l/\l L=some (.lst (oddL tp))/\l tp=some (.tup (([.inl 1]:List Key).map kV)):=λl sc=>⟨_,_,rfl,sa.trans sc,sc _ _ La,sc _ _ ta⟩;refine ea rfl ⟨C,_,_,rfl,Ra.M.ms.obj,by kernel_rfl,ea rfl (ea rfl (ixTc (v := .str tabs[i].1) (SqT.of (sa _ _ ht)) rfl (ea rfl ⟨C,m,tabs,u,j,i,J,x,rfl,Ra.M,R.j0,R.j1,aa.thing,λz l sc => ?_,λz => ?_⟩)))⟩
     ·have eo:o=none:=by
       rcases w2 with ⟨k,rfl,rfl⟩ | ⟨_,e⟩
       ·cases e:lk (d.rows tabs[i].1) k with
        | none=>rfl
        | some r =>
         rw [zd8 (keyKd af) _ ((Ra.D.rows _ mt).2 _ (zeH e)).univ] at z;cases z
       ·exact e
      subst eo;exact ea rfl (.inl ⟨rfl,ea rfl (iteF (c l sc))⟩)
     ·obtain ⟨k,rfl⟩:=isVal_key z;refine ⟨k,rfl,λl sc => ?_⟩;rcases w2 with ⟨k',ek,rfl⟩ | ⟨n,_⟩
      ·have:k'=k:=by
        have:=congrArg unK ek;rw [unK_kV,unK_kV] at this;exact this.symm
       subst this;rw [R.lnk _ mt];cases e:lk (d.rows tabs[i].1) k' with
       | none =>
        rw [e] at c;exact ea rfl (.inl ⟨rfl,ea rfl (iteF (c l sc))⟩)
       | some r =>
        rw [e] at c;obtain ⟨ks,ad,_,_⟩:=(Ra.D.rows _ mt).2 _ (zeH e);exact ea rfl (.inr ⟨r,r,ks.map kV,rfl,rfl,SqT.of (sc _ _ ad),SqT.of (sc _ _ ad),zdm ks,ea rfl (iteF (c l sc))⟩)
      ·exact absurd rfl (n k)
    ·intro N Y;cases aa with
     | key k hk =>
      refine ea rfl (ea rfl ⟨d.f tabs[i].1,_,rfl,⟨_,.inl Z,.inl ⟨k,rfl,rfl⟩⟩,ea rfl ?_⟩);rw [zbc];cases e:lk (d.rows tabs[i].1) k with
      | none=>exact Y _ _ ⟨none,rfl,rfl,.inl ⟨k,rfl,e.symm⟩⟩
      | some r =>
       have nb:∃ T',TyOf K F (kV k) (.type T')/\ybg K (.type T') (.type "bool")=some false:=by
        cases k with
        | inl n=>exact ⟨"int",.int n,by kernel_rfl⟩
        | inr y=>exact ⟨"str",.str y,by kernel_rfl⟩
       obtain ⟨T',y1,y2⟩:=nb;refine ea rfl ⟨_,_,_,_,rfl,y1,y2,ea rfl ?_⟩;refine ea rfl (ea rfl ⟨d.f tabs[i].1,.ref r,rfl,.inl ⟨_,k,.inl Z,rfl,by rw [zbc,e];rfl⟩,Y _ _ ⟨some r,rfl,rfl,.inl ⟨k,rfl,e.symm⟩⟩⟩)
     | bl b =>
      refine ea rfl (ea rfl ⟨d.f tabs[i].1,_,rfl,⟨_,.inl Z,.inr (.inl ⟨b,rfl,rfl⟩)⟩,ea rfl ?_⟩);have nk:∀ k,V.bl b≠kV k:=λk=>by cases k <;> (intro z;cases z)
      cases (valV (ksD (d.rows tabs[i].1)) (.inl (if b=true then 1 else 0))).isSome with
      | false=>exact Y _ _ ⟨none,rfl,rfl,.inr ⟨nk,rfl⟩⟩
      | true=>exact ea rfl ⟨_,_,_,_,rfl,.bl b,zbS,ea rfl (Y _ _ ⟨none,rfl,rfl,.inr ⟨nk,rfl⟩⟩)⟩
     | non=>exact ea rfl (ea rfl ⟨d.f tabs[i].1,_,rfl,⟨_,.inl Z,.inr (.inr (.inl ⟨rfl,rfl⟩))⟩,ea rfl (Y _ _ ⟨none,rfl,rfl,.inr ⟨λk=>by cases k <;> (intro z;cases z),rfl⟩⟩)⟩)
     | tup t e=>exact ea rfl (ea rfl ⟨d.f tabs[i].1,_,rfl,⟨_,.inl Z,.inr (.inr (.inr ⟨t,_,rfl,e,rfl⟩))⟩,ea rfl (Y _ _ ⟨none,rfl,rfl,.inr ⟨λk=>by cases k <;> (intro z;cases z),rfl⟩⟩)⟩)
   ·rintro g F ⟨aq,ak,rfl,sa,_,_⟩;exact ⟨_,_,_,_,rfl,O.trans sa⟩
  ·rintro g I ⟨v4,v5,G,B,rfl,O⟩;exact p1 (q I O)
structure Scn where
 sc:Addr
 mo:Addr
 tt:Addr
 tl:Addr
 ol:Addr
 ml:Addr
 dd:Addr
 ts:List Addr
 qs:List Addr
 cas:List Addr
 m:MR
 tabs:List Tab
 ords:List Col
 mods:List Md
def Scn.fix (s:Scn):List Addr:=s.m.sc :: s.dd :: s.tl :: s.ol :: (s.cas++s.mods.flatMap λd=>d.a :: s.tabs.map λt=>d.f t.1)
def Scn.part (s:Scn) (b:Addr):Prop:=s.m.own b≠none\/b∈s.fix
structure SC (C Cs:Addr) (H:Hp) (s:Scn):Prop where
 M:Mka C Cs H s.mo s.m s.tabs s.ords
 sch:∃ dx t1 oo,H s.m.sc=some (.ins Cs dx (scF t1 oo s.dd))
 htt:H s.tt=some (.tup [.ref s.tl,.ref s.ol])
 htl:H s.tl=some (.lst (s.ts.map V.ref))
 hol:H s.ol=some (.lst (s.qs.map V.ref))
 tabs:TabsL [] H s.ts s.tabs
 cas:∀ t∈s.ts,∀ n ca,H t=some (.tup [.str n,.ref ca])->ca∈s.cas
 casx:∀ ca∈s.cas,∃ o,H ca=some o
 cols:ColsAt H s.qs s.ords
 mods:∀ d∈s.mods,MdOk H s.tabs d
structure SP (s:Scn):Prop where
 len:(s.mods.length:Int)=s.m.L+1
 st:∀ t∈s.tabs,∀ k,StOk s.m.L (s.m.ss t.1 k)
 lnk:∀ t∈s.tabs,∀ k,∀ (j:Nat) (h:j < s.mods.length),rowThen (s.m.ss t.1 k) j=lk (s.mods[j].rows t.1) k
 U:∀ t∈s.tabs,s.m.U t.1=univ (keyK t)
 cnt:s.m.cnt<=300+12*s.mods.length
 own:∀ b∈s.fix,s.m.own b=none
 ddn:∀ d∈s.mods,∀ t∈s.tabs,d.f t.1≠s.dd
 okO:zfI s.tabs s.ords
structure SAt (C Cs:Addr) (H:Hp) (s:Scn):Prop where
 c:SC C Cs H s
 p:SP s
 tup:H s.sc=some (.tup [.ref s.mo,.ref s.tt,.ref s.ml])
 hml:H s.ml=some (.lst (s.mods.map λd=>V.ref d.a))
 nml:¬ s.part s.ml
theorem zdB {s:Scn} {d:Md} (h:d∈s.mods):d.a∈s.fix:=yal _ (yal _ (yal _ (yal _ (yaN _ (ybO.mpr ⟨d,h,yax⟩)))))
theorem zcH {s:Scn} {d:Md} {t:Tab} (h:d∈s.mods) (a:t∈s.tabs):d.f t.1∈s.fix:=yal _ (yal _ (yal _ (yal _ (yaN _ (ybO.mpr ⟨d,h,yal _ (yao.mpr ⟨t,a,rfl⟩)⟩)))))
theorem zb4 {s:Scn} {a:Addr} (h:a∈s.cas):a∈s.fix:=yal _ (yal _ (yal _ (yal _ (ybe _ h))))
theorem zey {s:Scn} {b:Addr} (h:b∈s.fix):b=s.m.sc\/b=s.dd\/b=s.tl\/b=s.ol\/b∈s.cas\/(∃ d∈s.mods,b=d.a)\/∃ d∈s.mods,∃ t∈s.tabs,b=d.f t.1:=by
 unfold Scn.fix at h;rcases yaJ.mp h with h | h
 ·exact .inl h
 ·rcases yaJ.mp h with h | h
  ·exact .inr (.inl h)
  ·rcases yaJ.mp h with h | h
   ·exact .inr (.inr (.inl h))
   ·rcases yaJ.mp h with h | h
    ·exact .inr (.inr (.inr (.inl h)))
    ·rcases yau.mp h with h | h
     ·exact .inr (.inr (.inr (.inr (.inl h))))
     ·obtain ⟨d,hd,c⟩:=ybO.mp h;rcases yaJ.mp c with c | c
      ·exact .inr (.inr (.inr (.inr (.inr (.inl ⟨d,hd,c⟩)))))
      ·obtain ⟨t,g,e⟩:=yao.mp c;exact .inr (.inr (.inr (.inr (.inr (.inr ⟨d,hd,t,g,e.symm⟩)))))
section
variable {C Cs:Addr} {H H':Hp} {s:Scn}
theorem SC.ddAt (h:SC C Cs H s):∃ cas,H s.dd=some (.dK (kvsOf s.tabs cas)):=by
 obtain ⟨dx,f,i,dd,o,ts,cas,j,e,_,_,_,_,g⟩:=h.M.sc;obtain ⟨c,d,b,a⟩:=h.sch;rw [e] at a;have:=zdn a;rw [<- this];exact ⟨cas,g⟩
theorem SC.ex (h:SC C Cs H s) {b:Addr} (a:s.part b):∃ o,H b=some o:=by
 rcases a with a | a
 ·cases e:s.m.own b with
  | none=>exact absurd e a
  | some r =>
   rcases h.M.ms.live b r e with ⟨_,_,_,z⟩ | ⟨_,z⟩ | ⟨_,z⟩ <;> exact ⟨_,z⟩
 ·rcases zey a with rfl | rfl | rfl | rfl | hc | ⟨d,hd,rfl⟩ | ⟨d,hd,t,c,rfl⟩
  ·obtain ⟨_,_,_,e⟩:=h.sch;exact ⟨_,e⟩
  ·obtain ⟨_,e⟩:=h.ddAt;exact ⟨_,e⟩
  ·exact ⟨_,h.htl⟩
  ·exact ⟨_,h.hol⟩
  ·exact h.casx _ hc
  ·exact ⟨_,(h.mods d hd).at_.out⟩
  ·exact ⟨_,(h.mods d hd).at_.ins _ (zaw c)⟩
theorem SC.keep (h:SC C Cs H s) (f:∀ b xs,H b=some (.tup xs)->H' b=some (.tup xs)) (J:∀ b u v,H b=some (.frz u v)->H' b=some (.frz u v)) (k:∀ b,s.part b->∀ o,H b=some o->H' b=some o):SC C Cs H' s:=by
 have p:∀ b r,s.m.own b=some r->H' b=H b:=λb r e=>by
  have S:=k b (.inl (by rw [e];exact λz=>nomatch z));rcases h.M.ms.live b r e with ⟨_,_,_,z⟩ | ⟨_,z⟩ | ⟨_,z⟩ <;> rw [z] <;> exact S _ z
 have c:∀ b∈s.fix,∀ o,H b=some o->H' b=some o:=λb R=>k b (.inr R);obtain ⟨l,W,j,A⟩:=h.sch;have q:=c _ yax _ A;have Y:Mka C Cs H' s.mo s.m s.tabs s.ords:=by
  obtain ⟨dx,Z,oo,dd,ob,ts,cas,Q,e,b,I,d,g,U⟩:=h.M.sc;have D:dd=s.dd:=by rw [e] at A;exact zdn A
  refine ⟨h.M.ms.agree p f,⟨dx,Z,oo,dd,ob,ts,cas,Q,c _ yax _ e,J _ _ _ b,⟨Paired.mapP I.1 ?_,I.2⟩,f _ _ d,Paired.mapP g λ_ _ z=>f _ _ z,c _ (by rw [D];exact yal _ yax) _ U⟩,h.M.ok,h.M.n1,λl G j E z => ?_,h.M.nm,h.M.one⟩
  ·rintro _ _ ⟨F,x1,O,V⟩;exact ⟨F,f _ _ x1,f _ _ O,Paired.mapP V λ_ _ z=>f _ _ z⟩
  ·rw [q] at z;have zz:=zdn z;exact h.M.n2 l G j E (by rw [A,<- z])
 refine ⟨Y,⟨l,W,j,q⟩,f _ _ h.htt,c _ (by simp [Scn.fix]) _ h.htl,c _ (by simp [Scn.fix]) _ h.hol,?_,?_,λB hc => ?_,Paired.mapP h.cols λ_ _ z=>f _ _ z,λd hd => ?_⟩
 ·refine zc9 (yaC h.tabs) λi h1 h2 => ?_;obtain ⟨B,F,a,b,e,n⟩:=Paired.at h.tabs i h1 h2;exact ⟨B,F,f _ _ a,c _ (zb4 (h.cas _ (yam h1) _ _ a)) _ b,Paired.mapP e λ_ _ z=>f _ _ z,n⟩
 ·intro t y n B e;obtain ⟨L,d,a,_⟩:=zds h.tabs y;rw [f _ _ a] at e;cases e;exact h.cas t y _ _ a
 ·obtain ⟨o,e⟩:=h.casx B hc;exact ⟨o,c _ (zb4 hc) _ e⟩
 ·refine (h.mods d hd).keep f (c _ (zdB hd)) λnm N => ?_;obtain ⟨t,y,rfl⟩:=yao.mp N;exact c _ (zcH hd y)
theorem SC.same (h:SC C Cs H s) (a:Same H H'):SC C Cs H' s:=h.keep (λ_ _=>a _ _) (λ_ _ _=>a _ _) λ_ _ _=>a _ _
theorem SAt.same (h:SAt C Cs H s) (a:Same H H'):SAt C Cs H' s:=⟨h.c.same a,h.p,a _ _ h.tup,a _ _ h.hml,h.nml⟩
theorem SC.mdt (h:SC C Cs H s) (p:SP s) {j:Nat} (c:j < s.mods.length):MdT C Cs H s.mo s.tt j s.mods[j] s.m s.tabs s.ords:=by
 have b:=yam c;refine ⟨h.M,⟨s.tl,s.ol,s.ts,s.qs,[],h.htt,h.htl,h.tabs,h.hol,h.cols⟩,Int.natCast_nonneg j,by have:=p.len;omega,h.mods _ b,λt a=>⟨p.own _ (zcH b a),⟨_,(h.mods _ b).at_.ins _ (zaw a)⟩,λdx tt l dd e => ?_⟩,λt a k=>p.lnk t a k j c⟩;obtain ⟨g,i,f,d⟩:=h.sch;rw [d] at e;rw [<- zdn e];exact ybt (p.ddn _ b t a)
end
theorem zef {K:PySem.W.Frag} {H H':Hp} {a:Addr} {xs:List V} (h:SqL K H a xs) (s:Same H H'):SqL K H' a xs:=by
 rcases h with (h | ⟨o,h⟩) | h
 ·exact .inl (.inl (s _ _ h))
 ·exact .inl (.inr ⟨o,s _ _ h⟩)
 ·exact .inr h
def Uof (tabs:List Tab) (nm:Str):List Key:=match tabs.find? (λt=>decide (t.1=nm)) with
 | some t=>univ (keyK t)
 | none => []
theorem zhz {tabs:List Tab} (b:(tabs.map (·.1)).Nodup) {t:Tab} (a:t∈tabs):Uof tabs t.1=univ (keyK t):=by
 unfold Uof;cases e:tabs.find? (λu=>decide (u.1=t.1)) with
 | none=>exact absurd (decide_eq_true rfl) (List.find?_eq_none.mp e t a)
 | some u =>
  have c:=List.find?_some e;have h1:u.1=t.1:=by simpa using c
  rw [zej b (List.mem_of_find?_eq_some e) a h1]
theorem lkW_mem {ws:List Wr} {w:Wr} (a:WNd ws) (h:w∈ws) (o:Option Addr):lkW ws w.1 w.2.1 o=w.2.2:=by
 induction ws generalizing o with
 | nil=>cases h
 | cons v r b =>
  unfold WNd at a;rw [yaw,ybm] at a;show lkW r w.1 w.2.1 (if w.1=v.1/\w.2.1=v.2.1 then v.2.2 else o)=w.2.2;rcases yaJ.mp h with rfl | z
  ·rw [if_pos ⟨rfl,rfl⟩];exact (zfZ (L:=0) λu c y=>a.1 (yao.mpr ⟨u,c,by rw [<- y.1,<- y.2]⟩)).2 _
  ·exact b a.2 z _
section
variable {H H':Hp} {tabs:List Tab} {d:Md} {hs:List HdR}
theorem wsOf_nd (ok:zaY tabs) (D:MdR H tabs d) (F:HdFor H H' tabs d hs):WNd (wsOf hs):=by
 have all:∀ l:List HdR,(∀ h∈l,h∈hs)->(l.map (·.nm)).Nodup->WNd (wsOf l):=by
  intro l
  induction l with
  | nil=>intro _ _;exact yce
  | cons h r m =>
   intro sub nd;rw [yaw,ybm] at nd;unfold WNd wsOf;rw [yfK,yak,ybq];obtain ⟨t,f,e1,e2,_⟩:=F.is h (sub h yax);refine ⟨?_,m (λx i=>sub x (yal _ i)) nd.2,λa o b j e => ?_⟩
   ·unfold wsOf1;rw [yaU,e2];have q:=(D t f).1;have e:((((d.rows t.1).map λp=>(p.2,p.1)).reverse).map ((λw:Wr=>(w.1,w.2.1)) ∘ λr=>(h.nm,r.2,some r.1)))=(((d.rows t.1).map (·.1)).reverse).map λk=>(h.nm,k):=by
     rw [<- yd2,<- yd2,yaU,yaU];rfl
    rw [e];exact List.Pairwise.map _ (λa b z y=>z (Prod.mk.inj y).2) ((List.reverse_perm _).nodup_iff.mpr q)
   ·obtain ⟨w,hw,rfl⟩:=yao.mp o;obtain ⟨v,c,rfl⟩:=yao.mp j;obtain ⟨g,n,c⟩:=ybO.mp c;unfold wsOf1 at hw c;obtain ⟨x,_,rfl⟩:=yao.mp hw;obtain ⟨y,_,rfl⟩:=yao.mp c;exact nd.1 (yao.mpr ⟨g,n,(Prod.mk.inj e).1.symm⟩)
 exact all hs (λ_ h=>h) F.nd
theorem wsOf_lk (ok:zaY tabs) (D:MdR H tabs d) (F:HdFor H H' tabs d hs) {t:Tab} (b:t∈tabs) (k:Key):lkW (wsOf hs) t.1 k none=lk (d.rows t.1) k:=by
 have l:=wsOf_nd ok D F;cases e:lk (d.rows t.1) k with
 | some r =>
  have m:=zeH e;obtain ⟨h,a,g⟩:=F.all t b (λz=>by rw [z] at m;cases m);obtain ⟨u,c,e1,e2,_⟩:=F.is h a;have:u=t:=zej ok.2.2.2 c b (e1.symm.trans g);subst this;have n:((u.1,k,some r):Wr)∈wsOf hs:=by
   refine ybO.mpr ⟨h,a,yao.mpr ⟨(r,k),?_,by rw [g]⟩⟩;rw [e2];exact ye0.mpr (yao.mpr ⟨_,m,rfl⟩)
  exact lkW_mem l n none
 | none =>
  refine (zfZ (L:=0) λw hw z => ?_).2 _;obtain ⟨h,a,hw⟩:=ybO.mp hw;obtain ⟨x,f,rfl⟩:=yao.mp hw;obtain ⟨u,c,e1,e2,_⟩:=F.is h a;have:u=t:=zej ok.2.2.2 c b (e1.symm.trans z.1.symm);subst this;rw [e2] at f;obtain ⟨p,j,rfl⟩:=yao.mp (ye0.mp f);have i:k=p.1:=z.2;exact lk_none.mp e (yao.mpr ⟨p,j,i.symm⟩)
theorem zh7 (ok:zaY tabs) (D:MdR H tabs d) (F:HdFor H H' tabs d hs):(wsOf hs).length<=252:=by
 have all:∀ l:List HdR,(∀ h∈l,h∈hs)->(wsOf l).length<=63*l.length:=by
  intro l
  induction l with
  | nil=>intro _;exact yaj _
  | cons h r f =>
   intro sub;have:=f λx c=>sub x (yal _ c);obtain ⟨t,b,_,e2,_⟩:=F.is h (sub h yax);have l1:=D.len ok.2.2.1 b;unfold wsOf at this ⊢;rw [yfK,yaK,ya4];have:(wsOf1 h).length<=63:=by
    unfold wsOf1;rw [yab,e2,yd5,yab];exact l1
   omega
 have l1:(hs.map (·.nm)).length<=(tabs.map (·.1)).length:=F.nd.length_le_of_subset λx c=>by
  obtain ⟨h,g,e⟩:=yao.mp c;obtain ⟨t,b,a,_⟩:=F.is h g;rw [<- e,a];exact zaw b
 rw [yab,yab] at l1;have:=all hs λ_ h=>h;have:=ok.2.1;omega
theorem HdFor.ok (ok:zaY tabs) (D:MdR H' tabs d) (F:HdFor H H' tabs d hs):∀ h∈hs,HdOk H' (tabs.map (·.1)) (Uof tabs) h:=λh g=>by
 obtain ⟨t,b,e1,e2,e3,_⟩:=F.is h g;refine ⟨e3,by rw [e1];exact zaw b,λr e => ?_⟩;rw [e2] at e;obtain ⟨p,i,rfl⟩:=yao.mp (ye0.mp e);have f:=(D t b).2 p i;rw [e1,zhz ok.2.2.2 b];refine ⟨?_,f.univ⟩;obtain ⟨ks,a,_,c⟩:=f;cases ks with
 | nil=>cases c
 | cons k r =>
  cases c;exact ⟨r.map kV,a⟩
end
def zga (K:PySem.W.Frag) (C Cs:Addr):Sp:=λvs H Q _=>∃ (a:Addr) (ns:List Int) (k:Int),vs = [.ref a,.int k]/\SqL K H a (ns.map V.int)/\0<=k/\k<=1/\∀ (s:Scn) (H':Hp),Same H H'->SAt C Cs H' s->s.mods.length=1->(∀ b,s.part b->H b=none)->H s.ml=none->Q (.ref s.sc) H'
theorem no_told (b a dd:Addr):(scF b a dd).lookup ("told" : Str)=none:=zei b a dd (by decide +kernel)
def ClR (hd:Addr) (hs:List HdR) (H H':Hp):Prop:=∀ b o,b≠hd->(∀ h∈hs,b≠h.l)->H b=some o->H' b=some o
theorem zdr (T:Txt K mg):FnOk P w K mg base CX0 9 T._law_begun.f T._law_begun.fd ["_law_script", "_law_k"] (zga K T.C_Makes T.C_Schema):=by
 refine T._law_begun.fn.ok sc__law_begun (λvs H Q E h => ?_) (λcv A outer s H vs Q E hr h => ?_)
 ·obtain ⟨a,ns,k,rfl,_⟩:=h;rfl
 ·obtain ⟨a,ns,k,rfl,ha,k0,k1,q⟩:=h;have bd:=hu_of hr;have cD:=hr.units0;refine ⟨_,((zad (zas (i:=2) sc__law_begun.nd rfl (yaL rfl) (zaq (zfp T) (hr.mono (by decide)) rfl (zaa (zaq (zcA T) (hr.mono (by decide)) rfl (zaa (pv 0) (zaa (pv 1) zae))) zae)))
   (zad (zas (i:=3) sc__law_begun.nd rfl (yaL rfl) (zaq (zf2 T) (hr.mono (by decide)) rfl (zaa (pv 2) (zaa (pe_op zbr (zaq (zcA T) (hr.mono (by decide)) rfl (zaa (pv 0) (zaa zac zae))) (pe_op zbZ zac (pv 1))) zae))))
   (zad (zas (i:=4) sc__law_begun.nd rfl (yaL rfl) (zaq (zfd T) (hr.mono (by decide)) rfl (zaa (pv 3) zae)))
   (zad (zas (i:=5) sc__law_begun.nd rfl (yaL rfl) (zfW T.k_Schema (zbO T) (hr.mono (by decide)) rfl T.c_Schema (zgH T) .nil pass0 (zaa (pe_ix (zak (K:=K) rfl) (pv 2) zac (λ_ _=>rfl)) (zaa (pe_ix (zak (K:=K) rfl) (pv 2) zac (λ_ _=>rfl)) zae))))
   (zad (zas (i:=6) sc__law_begun.nd rfl (yaL rfl) (zfW T.k_Makes (zb0 T) (hr.mono (by decide)) rfl T.c_Makes (bi_Makes T) .nil pass0 (zaa (pv 5) (zaa (pv 4) zae))))
   (zad (ps_if (zaz (op_neI (K:=K) rfl bd) (zcL T.l_Schema (zcQ T) (hr.mono (by decide)) (zaE (K:=K) rfl (pv 6) rfl)) (zcL T.l_Schema (zcQ T) (hr.mono (by decide)) (pv 5)) (zaD _)) (zag (zao (zaU (zaa (pv 6) (zaa (pv 2) (zaa (za3 zae) zae)))))) zau)
   (zad (zeo yaQ rfl (zeK (pv 4)) (zal (i:=7) sc__law_begun.nd rfl (yaL rfl)) (zag (zaI (zdG (K:=K) rfl ya3 ydh ydi zee (zaM bd (pv 4) (pv 7) (λ_ _=>rfl))))))
   (zad (zaI (pe_dclear (pv 4)))
   (zag (zao (zaU (zaa (pv 6) (zaa (pv 2) (zaa (za3 (zaa (pv 3) zae)) zae))))))))))))))),?_⟩
  refine sq1 λR1 p1 => ?_;refine ea rfl (ea rfl ⟨a,ns,k,rfl,ha,k0,λc=>⟨c,rfl,λtt tl ol ts qs tabs ag H1 s1 cm bF bQ cH as an ar hT bE hO ok a8=>p1 ?_⟩⟩);refine sq1 λR2 p2 => ?_;refine ea rfl (ea rfl ⟨a,ns,2,rfl,zef ha s1,by decide,λc2=>ea rfl ⟨_,_,rfl,rfl,.inl ⟨by decide,by decide⟩,_,_,rfl,rfl,tt,tl,ol,_,ts,_,tabs,rfl,as,an,hT,ok,λd H2 s2 aA D2=>p2 ?_⟩⟩);refine sq1 λR3 p3 => ?_;refine ea rfl ⟨d,tabs,rfl,D2,ok,λhd hs H3 s3 aY e3 F3=>p3 ?_⟩;have S2:Same H H2:=s1.trans s2;have W:Same H1 H3:=s2.trans s3;have S3:Same H H3:=S2.trans s3;refine sq1 λR4 p4 => ?_;refine ea rfl (ixTc (v := .ref tl) (SqT.of (W _ _ as)) rfl (ea rfl (ixTc (v := .ref ol) (SqT.of (W _ _ as)) rfl λsc dx aq bG bS => ?_)));have s4:Same H3 (upd (upd H3 dx (.own sc)) sc (.ins T.C_Schema dx [])):=(Same.new bG).trans (Same.new (by rw [zaf (ybt bS)];exact aq));have aZ:(upd (upd H3 dx (.own sc)) sc (.ins T.C_Schema dx [])) sc=some (.ins T.C_Schema dx []):=zab;generalize upd (upd H3 dx (.own sc)) sc (.ins T.C_Schema dx [])=H4 at s4 aZ ⊢;have ay:=W.trans s4;have bZ:TabsI H4 ts tabs:=Paired.mapP (hT.same ay) λ_ _ ⟨R,cq,x1,x2,x3,_⟩=>⟨R,cq,x1,.inl x2,x3⟩;refine ⟨sc,dx,tl,.ref ol,ts,tabs,ag,rfl,aZ,.inl (ay _ _ an),bZ,ok,.inr ⟨ol,qs,rfl,.inl (ay _ _ ar),hO.same ay⟩,a8,λH5 ad t5 au dd e5 bW aE bM=>⟨rfl,p4 ?_⟩⟩;have I:Same H3 H5:=λb o e=>bM b o (s4 _ _ e) (λz=>by rw [z,aq] at e;cases e);have ak:H3 dd=none:=s4.free bW;refine sq1 λR5 p5 => ?_;refine ea rfl (ea rfl λY dm aj bJ bN => ?_);have s6:Same H5 (upd (upd H5 dm (.own Y)) Y (.ins T.C_Makes dm [])):=(Same.new bJ).trans (Same.new (by rw [zaf (ybt bN)];exact aj));have bj:(upd (upd H5 dm (.own Y)) Y (.ins T.C_Makes dm [])) Y=some (.ins T.C_Makes dm []):=zab;have n6:∀ b,(upd (upd H5 dm (.own Y)) Y (.ins T.C_Makes dm [])) b=none->H5 b=none:=λb e=>by
   cases z:H5 b with
   | none=>rfl
   | some o=>rw [s6 _ _ z] at e;cases e
  generalize upd (upd H5 dm (.own Y)) Y (.ins T.C_Makes dm [])=H6 at s6 bj n6 ⊢;have bU:sc≠Y:=λz=>by rw [<- z,e5] at aj;cases aj
  have aL:=I.trans s6;have D3:MdOk H3 tabs d:=D2.same s3;have F6:HdFor H2 H6 tabs d hs:=⟨F3.nd,λh O=>let ⟨t,G,a,b,c,e⟩:=F3.is h O;⟨t,G,a,b,aL _ _ c,e⟩,F3.all⟩;refine ⟨Y,dm,sc,.ref hd,tabs,ag,Uof tabs,hs,rfl,bj,aE.kept s6,ok,bU,λnm hn => ?_,.inr ⟨hd,rfl,aL _ _ e3,F3.nd⟩,F6.ok ok (D3.same aL).rows,ycN (zh7 ok D2.rows F3) (by decide),λH7 m M7 bL D=>⟨rfl,p5 ?_⟩⟩
  ·obtain ⟨t,G,rfl⟩:=yao.mp hn;rw [zhz ok.2.2.2 G];exact ⟨zed (keyKd (ok.2.2.1 t G)),zel (keyKd (ok.2.2.1 t G))⟩
  have al:Same H5 H7:=λb o e=>bL b o (λz=>by rw [z,aj] at e;cases e) (s6 _ _ e);have aO:=I.trans al;have aF:∀ b,m.own b≠none->H5 b=none:=λb M=>by
   rcases D.own b M with rfl | e
   ·exact aj
   ·exact n6 b e
  have Z:=W.trans aO;obtain ⟨cas,aG⟩:∃ cas:List Addr,cas=ts.filterMap λt=>match H1 t with | some (.tup [_,.ref R])=>some R | _=>none:=⟨_,rfl⟩
  have bh:∀ t∈ts,∀ n R,H1 t=some (.tup [.str n,.ref R])->R∈cas:=λt G n R e=>by
   rw [aG];exact yco.mpr ⟨t,G,by rw [e]⟩
  have aB:∀ R∈cas,(∃ o,H1 R=some o)/\H R=none:=λR hc=>by
   rw [aG] at hc;obtain ⟨t,G,e⟩:=yco.mp hc;obtain ⟨i,hi,ei⟩:=ybo.mp G;have bA:i < tabs.length:=by rw [<- yaC hT];exact hi
   obtain ⟨bY,cq,x1,x2,_⟩:=Paired.at hT i hi bA;rw [ei] at x1;have e':=e;rw [x1] at e';cases e';exact ⟨⟨_,x2⟩,bE t G _ _ x1⟩
  let S:Addr->Addr->Scn:=λB C=>⟨B,Y,tt,tl,ol,C,dd,ts,qs,cas,m,tabs,ag,[d]⟩;have bB:∃ o,H5 dd=some o:=by
   obtain ⟨cg,ck,ce,cI,o,cC,b3,rs,e,_,_,_,_,g⟩:=aE;rw [e5] at e;rw [zdn e];exact ⟨_,g⟩
  have ah:∀ B C,∀ b∈(S B C).fix,((∃ o,H5 b=some o)/\H b=none)/\(H3 b=none\/∃ o,H2 b=some o):=λB C b M=>by
   rcases zey M with rfl | rfl | rfl | rfl | hc | ⟨d',aa,rfl⟩ | ⟨d',aa,t,G,rfl⟩
   ·show ((∃ o,H5 m.sc=some o)/\H m.sc=none)/\(H3 m.sc=none\/_);rw [D.sc];exact ⟨⟨⟨_,e5⟩,S3.free aq⟩,.inl aq⟩
   ·exact ⟨⟨bB,S3.free ak⟩,.inl ak⟩
   ·exact ⟨⟨⟨_,I _ _ (W _ _ an)⟩,bF⟩,.inr ⟨_,s2 _ _ an⟩⟩
   ·exact ⟨⟨⟨_,I _ _ (W _ _ ar)⟩,bQ⟩,.inr ⟨_,s2 _ _ ar⟩⟩
   ·obtain ⟨⟨o,e⟩,f⟩:=aB b hc;exact ⟨⟨⟨o,I _ _ (W _ _ e)⟩,f⟩,.inr ⟨o,s2 _ _ e⟩⟩
   ·have:d'=d:=yai.mp aa;subst this;exact ⟨⟨⟨_,I _ _ D3.at_.out⟩,s1.free aA.1⟩,.inr ⟨_,D2.at_.out⟩⟩
   ·have:d'=d:=yai.mp aa;subst this;exact ⟨⟨⟨_,I _ _ (D3.at_.ins _ (zaw G))⟩,s1.free (aA.2 _ (zaw G))⟩,.inr ⟨_,D2.at_.ins _ (zaw G)⟩⟩
  have ai:∀ B C,∀ b,(S B C).part b->H b=none/\(H3 b=none\/∃ o,H2 b=some o):=λB C b M=>by
   rcases M with M | M
   ·have:=aF b M;exact ⟨(S3.trans I).free this,.inl (I.free this)⟩
   ·exact ⟨(ah B C b M).1.2,(ah B C b M).2⟩
  have C7:∀ B C,SC T.C_Makes T.C_Schema H7 (S B C):=λB C=>by
   refine ⟨M7,⟨ad,t5,au,?_⟩,Z _ _ as,Z _ _ an,Z _ _ ar,?_,λt G n R e => ?_,λR hc => ?_,hO.same Z,λd' aa => ?_⟩
   ·show H7 m.sc=_;rw [D.sc];exact al _ _ e5
   ·exact Paired.mapP (hT.same Z) λ_ _ ⟨R,cq,x1,x2,x3,_⟩=>⟨R,cq,x1,x2,x3,λz=>nomatch z⟩
   ·obtain ⟨bY,d',x1,_⟩:=zds hT G;rw [Z _ _ x1] at e;cases e;exact bh t G _ _ x1
   ·obtain ⟨⟨o,e⟩,_⟩:=aB R hc;exact ⟨o,Z _ _ e⟩
   ·have:d'=d:=yai.mp aa;subst this;exact D3.same aO
  have bO:=wsOf_nd ok D2.rows F3;have P7:∀ B C,SP (S B C):=λB C=>by
   have z1:(-1:Int)+1=0:=by decide
   have fold:∀ (n:Str) (k:Key),StOk 0 (m.ss n k)/\rowThen (m.ss n k) 0=lkW (wsOf hs) n k none:=λn k=>by
    have f:=StOk.fold (L := -1) (n:=n) (k:=k) StOk.nil bO;rw [z1,<- D.ss n k] at f;exact ⟨f.1,f.2.2⟩
   refine ⟨?_,λt G k => ?_,λt G k j hj => ?_,λt G => ?_,?_,λb M => ?_,λd' aa t G => ?_,a8⟩
   ·show (1:Int)=m.L+1;rw [D.L];rfl
   ·show StOk m.L (m.ss t.1 k);rw [D.L];exact (fold t.1 k).1
   ·have cO:j < 1:=hj;have j0:j=0:=by omega
    subst j0;show rowThen (m.ss t.1 k) 0=lk (d.rows t.1) k;rw [(fold t.1 k).2];exact wsOf_lk ok D2.rows F3 G k
   ·show m.U t.1=_;rw [D.U];exact zhz ok.2.2.2 G
   ·show m.cnt<=300+12*1;rw [D.cnt];have:=zh7 ok D2.rows F3;omega
   ·show m.own b=none;cases z:m.own b with
    | none=>rfl
    | some r =>
     obtain ⟨o,e⟩:=(ah B C b M).1.1;rw [aF b (by rw [z];exact λy=>nomatch y)] at e;cases e
   ·have:d'=d:=yai.mp aa;subst this;intro z;have z':d'.f t.1=dd:=z;have:=D3.at_.ins _ (zaw G);rw [z',ak] at this;cases this
  have aC:H7 m.sc=some (.ins T.C_Schema ad (scF t5 au dd)):=by rw [D.sc];exact al _ _ e5
  refine sq1 λR6 p6 => ?_;refine ea rfl (gF (v := .ref m.sc) M7.ms.obj T.l_Makes T.n_Makes_schema (by kernel_rfl) ⟨m.sc,ad,_,rfl,aC,no_told ..,m.sc,ad,t5,au,dd,rfl,aC,λr1 H8 cE s8 e8=>ea rfl ⟨sc,ad,_,rfl,s8 _ _ (al _ _ e5),no_told ..,sc,ad,t5,au,dd,rfl,s8 _ _ (al _ _ e5),λr2 H9 cr s9 e9=>⟨r1,r2,_,rfl,rfl,SqT.of (s9 _ _ e8),SqT.of e9,λv hv => ?_,ea rfl (iteF (p6 ?_))⟩⟩⟩)
  ·simp only [yaJ,yb7,or_false] at hv;rcases hv with rfl | rfl
   ·exact .inl ⟨_,rfl⟩
   ·exact .inl ⟨_,rfl⟩
  have be:=s8.trans s9;have aQ:=aO.trans be;have av:=aQ _ _ e3;have aM:∀ h∈hs,∃ xs,H9 h.l=some (.lst xs):=λh O=>let ⟨t,G,a,b,c,e⟩:=F3.is h O;⟨_,aQ _ _ c⟩;have a3:∀ B C,∀ b,(S B C).part b->b≠hd/\∀ h∈hs,b≠h.l:=λB C b M=>by
   rcases (ai B C b M).2 with e | ⟨o,e⟩
   ·refine ⟨(λz=>by rw [z,e3] at e;cases e),λh O z => ?_⟩;obtain ⟨t,G,_,_,c,_⟩:=F3.is h O;rw [z,c] at e;cases e
   ·refine ⟨(λz=>by rw [z,aY] at e;cases e),λh O z => ?_⟩;obtain ⟨t,G,_,_,_,f⟩:=F3.is h O;rw [z,f] at e;cases e
  refine sqC (λσ Hx=>∃ v7:Option V,σ = [some (.ref a),some (.int k),some (.ref tt),some (.ref d.a),some (.ref hd),some (.ref sc),some (.ref Y),v7]/\ClR hd hs H9 Hx/\Hx hd=some (.dK (hsD hs))) ?_ ?_
  ·rintro σ Hx ⟨v7,rfl,cl,bC⟩;refine sq1 λR7 p7 => ?_;refine ea rfl ⟨hd,_,rfl,bC,p7 ?_⟩;have ao:ClR hd hs H9 (upd Hx hd (.dK [])):=λb o n1 n2 e=>(zaf n1).trans (cl b o n1 n2 e);generalize upd Hx hd (.dK [])=J at ao ⊢;have kt:∀ b xs,H9 b=some (.tup xs)->J b=some (.tup xs):=λb xs e=>ao b _ (λz=>by rw [z,av] at e;cases e) (λh O z=>by obtain ⟨ys,y⟩:=aM h O;rw [z,y] at e;cases e) e;have kf:∀ b u v,H9 b=some (.frz u v)->J b=some (.frz u v):=λb u v e=>ao b _ (λz=>by rw [z,av] at e;cases e) (λh O z=>by obtain ⟨ys,y⟩:=aM h O;rw [z,y] at e;cases e) e;have ba:Same H J:=λb o e=>ao b o (λz=>by rw [z,S2.free aY] at e;cases e) (λh O z=>by obtain ⟨t,G,_,_,_,f⟩:=F3.is h O;rw [z,S2.free f] at e;cases e) ((S3.trans aQ) _ _ e);have a7:∀ B C,SC T.C_Makes T.C_Schema J (S B C):=λB C=>((C7 B C).same be).keep kt kf λb M o e=>ao b o (a3 B C b M).1 (a3 B C b M).2 e;refine ea rfl (ea rfl (ea rfl ⟨zah (show 1<=100000 by decide),λC aI => ?_⟩));have aS:Same J (upd J C (.lst [.ref d.a])):=Same.new aI;have a5:(upd J C (.lst [.ref d.a])) C=some (.lst [.ref d.a]):=zab;generalize upd J C (.lst [.ref d.a])=bf at aS a5 ⊢;refine ⟨zah (show 3<=100000 by decide),λB a1 => ?_⟩;have aH:Same bf (upd bf B (.tup [.ref Y,.ref tt,.ref C])):=Same.new a1;exact q (S B C) _ ((ba.trans aS).trans aH) ⟨((a7 B C).same aS).same aH,P7 B C,zab,aH _ _ a5,λz=>by obtain ⟨o,e⟩:=(a7 B C).ex z;have e':J C=some o:=e;rw [aI] at e';cases e'⟩ rfl (λb M=>(ai B C b M).1) (ba.free aI)
  ·intro N hN;refine ea rfl ⟨hd,_,rfl,av,λob b1 => ?_⟩;refine zc7 (a:=hd) (ob:=ob) (kvs:=hsD hs) (λi σ Hx=>∃ v7:Option V,σ = [some (.ref a),some (.int k),some (.ref tt),some (.ref d.a),some (.ref hd),some (.ref sc),some (.ref Y),v7]/\ClR hd hs H9 Hx/\Hx hd=some (.frz ob (.dK (hsD hs)))/\∀ h∈hs,∃ xs,Hx h.l=some (.lst xs))
    ⟨none,rfl,(λb o n1 _ e=>(zaf n1).trans e),zab,λh O => ?_⟩ (λi σ Hx _ ⟨_,_,_,e,_⟩=>e) ?_ ?_
   ·obtain ⟨xs,e⟩:=aM h O;exact ⟨xs,(zaf (λz=>by rw [z,av] at e;cases e)).trans e⟩
   ·rintro i p σ Hx hp ⟨v7,rfl,cl,frz,ls⟩;have hi:i < hs.length:=by
     have:=(List.getElem?_eq_some_iff.1 hp).1;unfold hsD at this
     rwa [yab] at this
    have ep:p=(.inr hs[i].nm,.ref hs[i].l):=by
     unfold hsD at hp;rw [yaf,yaa hi] at hp;exact (yaz hp).symm
    subst ep;have a4:=yam hi;obtain ⟨xs,e⟩:=ls _ a4;refine ea rfl (ea rfl ⟨hd,.ref hs[i].l,rfl,.inl ⟨_,.inr hs[i].nm,.inr ⟨_,frz⟩,rfl,(hsD_val F3.nd hi).symm⟩,.inl ⟨rfl,_,SqL.of e⟩,hs[i].l,xs,rfl,rfl,e,_,rfl,λb o n1 n2 e2 => ?_,?_,λh O => ?_⟩)
    ·exact (zaf (n2 _ a4)).trans (cl b o n1 n2 e2)
    ·exact (zaf (λz=>by rw [<- z,frz] at e;cases e)).trans frz
    ·by_cases z:h.l=hs[i].l
     ·exact ⟨[],by rw [z,zab]⟩
     ·obtain ⟨ys,y⟩:=ls h O;exact ⟨ys,(zaf z).trans y⟩
   ·rintro σ Hx ⟨v7,rfl,cl,frz,ls⟩;exact ⟨hd,ob,_,b1,frz,hN _ _ ⟨v7,rfl,λb o n1 n2 e=>(zaf n1).trans (cl b o n1 n2 e),zab⟩⟩
theorem zh9 {α a:Type} (f:α->a) (xs:List α) (h:0 < xs.length):atI (xs.map f) (-1)=some (f (xs[xs.length - 1]'(by omega))):=by
 unfold atI ixN;rw [if_neg (by decide),if_pos (by rw [yab];omega),yab];show (xs.map f)[((-1:Int)+(xs.length:Int)).toNat]? = _;have:((-1:Int)+(xs.length:Int)).toNat=xs.length - 1:=by omega
 rw [this,yaf,yaa (by omega)];rfl
theorem more_last {α:Type} (xs:List α) (x:α) (h:xs.length < (xs ++ [x]).length):(xs ++ [x])[xs.length]'h=x:=by simp
def Scn.more (s:Scn) (m:MR) (d:Md):Scn:={ s with m:=m,mods:=s.mods ++ [d] }
def Scn.all (s:Scn) (b:Addr):Prop:=s.part b\/b=s.ml
def zgt (C Cs:Addr):Sp:=λvs H Q _=>∃ (s:Scn) (c:Int),vs = [.ref s.sc,.int c]/\SAt C Cs H s/\1<=s.mods.length/\s.mods.length<=100 /\
 ∀ (s':Scn) (H':Hp),SAt C Cs H' s'->s'.sc=s.sc->s'.ml=s.ml->s'.mods.length=s.mods.length+1->(∀ b o,s.m.own b=none->b≠s.ml->H b=some o->H' b=some o)->(∀ b,s'.part b->s.part b\/H b=none)->Q (.bl true) H'
section
variable {C Cs:Addr} {H H':Hp} {s:Scn} {m':MR} {d':Md} {ws:List Wr}
theorem zeb {b:Addr} (e:m'.sc=s.m.sc) (h:b∈(s.more m' d').fix):b∈s.fix\/b=d'.a\/∃ t∈s.tabs,b=d'.f t.1:=by
 rcases zey h with z | z | z | z | z | ⟨d,hd,z⟩ | ⟨d,hd,t,c,z⟩
 ·left;have:b=s.m.sc:=z.trans e;rw [this];exact yax
 ·left;rw [z];exact yal _ yax
 ·left;rw [z];exact yal _ (yal _ yax)
 ·left;rw [z];exact yal _ (yal _ (yal _ yax))
 ·exact .inl (zb4 z)
 ·rcases yau.mp hd with y | y
  ·left;rw [z];exact zdB y
  ·rw [yai.mp y] at z;exact .inr (.inl z)
 ·rcases yau.mp hd with y | y
  ·left;rw [z];exact zcH y c
  ·rw [yai.mp y] at z;exact .inr (.inr ⟨t,c,z⟩)
theorem SP.more (p:SP s) (W:Wts H s.m m' (s.m.L+1) ws) (o:WNd ws) (q:ws.length<=12) (ok:zaY s.tabs) (u:0 < s.mods.length) (e:∀ t∈s.tabs,∀ k,lk (d'.rows t.1) k=lkW ws t.1 k (lk ((s.mods[s.mods.length - 1]'(by omega)).rows t.1) k))
  (ex:∀ b∈(s.more m' d').fix,s.m.own b=none/\H b≠none) (dn:∀ t∈s.tabs,d'.f t.1≠s.dd):SP (s.more m' d'):=by
 have i:=p.len;have fold:∀ t∈s.tabs,∀ k,StOk (s.m.L+1) (m'.ss t.1 k)/\(∀ j≤s.m.L,rowThen (m'.ss t.1 k) j=rowThen (s.m.ss t.1 k) j)/\rowThen (m'.ss t.1 k) (s.m.L+1)=lkW ws t.1 k (rowThen (s.m.ss t.1 k) s.m.L):=λt a k=>by
  have f:=StOk.fold (L:=s.m.L) (n:=t.1) (k:=k) (p.st t a k) o;rw [<- W.ss t.1 k] at f;exact f
 refine ⟨?_,λt a k => ?_,λt a k j l => ?_,λt a => ?_,?_,λb g => ?_,λd hd t a => ?_,p.okO⟩
 ·show ((s.mods ++ [d']).length:Int)=m'.L+1;rw [W.eL,yaK];simp;omega
 ·show StOk m'.L (m'.ss t.1 k);rw [W.eL];exact (fold t a k).1
 ·have c:j < (s.mods ++ [d']).length:=l;show rowThen (m'.ss t.1 k) j=lk ((s.mods ++ [d'])[j].rows t.1) k;rw [yaK] at c;simp at c;rcases yb6 j s.mods.length with z | z
  ·rw [List.getElem_append_left z,(fold t a k).2.1 j (by omega)];exact p.lnk t a k j z
  ·have h:j=s.mods.length:=by omega
   subst h;have e1:((s.mods.length:Nat):Int)=s.m.L+1:=i;rw [e1,(fold t a k).2.2];have e2:s.m.L=((s.mods.length - 1:Nat):Int):=by omega
   rw [e2,p.lnk t a k (s.mods.length - 1) (by omega),<- e t a k];rw [List.getElem_append_right (yaj _)];simp
 ·show m'.U t.1=_;rw [W.U];exact p.U t a
 ·show m'.cnt<=300+12*(s.mods ++ [d']).length;rw [W.cnt,yaK];have:=p.cnt;simp;omega
 ·show m'.own b=none;cases z:m'.own b with
  | none=>rfl
  | some r =>
   rcases W.own b (by rw [z];exact λy=>nomatch y) with y | y
   ·exact absurd (ex b g).1 y
   ·exact absurd y (ex b g).2
 ·rcases yau.mp hd with y | y
  ·exact p.ddn d y t a
  ·rw [yai.mp y];exact dn t a
theorem SC.more (h:SC C Cs H s) (B:Mka C Cs H' s.mo m' s.tabs s.ords) (e:m'.sc=s.m.sc) (f:∀ b xs,H b=some (.tup xs)->H' b=some (.tup xs)) (c:∀ b∈s.fix,∀ o,H b=some o->H' b=some o) (u:MdOk H' s.tabs d'):SC C Cs H' (s.more m' d'):=by
 obtain ⟨l,v,k,r⟩:=h.sch;refine ⟨B,⟨l,v,k,?_⟩,f _ _ h.htt,c s.tl (by simp [Scn.fix]) _ h.htl,c s.ol (by simp [Scn.fix]) _ h.hol,?_,?_,λj hc => ?_,Paired.mapP h.cols λ_ _ z=>f _ _ z,λd hd => ?_⟩
 ·show H' m'.sc=_;rw [e];exact c _ yax _ r
 ·refine zc9 (yaC h.tabs) λi h1 h2 => ?_;obtain ⟨j,A,a,b,e,n⟩:=Paired.at h.tabs i h1 h2;exact ⟨j,A,f _ _ a,c _ (zb4 (h.cas _ (yam h1) _ _ a)) _ b,Paired.mapP e λ_ _ z=>f _ _ z,n⟩
 ·intro t g n j e;obtain ⟨p,d,a,_⟩:=zds h.tabs g;rw [f _ _ a] at e;cases e;exact h.cas t g _ _ a
 ·obtain ⟨o,e⟩:=h.casx j hc;exact ⟨o,c _ (zb4 hc) _ e⟩
 ·rcases yau.mp hd with y | y
  ·refine (h.mods d y).keep f (c _ (zdB y)) λnm q => ?_;obtain ⟨t,g,rfl⟩:=yao.mp q;exact c _ (zcH y g)
  ·rw [yai.mp y];exact u
end
theorem zgP (T:Txt K mg):FnOk P w K mg base CX0 9 T._law_step.f T._law_step.fd ["_law_scene", "_law_cell"] (zgt T.C_Makes T.C_Schema):=by
 refine T._law_step.fn.ok sc__law_step (λvs H Q E h => ?_) (λbi A outer s H vs Q E hr h => ?_)
 ·obtain ⟨S,c,rfl,_⟩:=h;rfl
 ·obtain ⟨S,c,rfl,Z,l1,a4,q⟩:=h;have br:=hu_of hr;have bq:=hr.units0;refine ⟨_,((zad (ps_asg (pv 0) (zbe (K:=K) (n:=3) rfl rfl (zat ((zal (i:=2) sc__law_step.nd rfl (yaL rfl))) (zat ((zal (i:=3) sc__law_step.nd rfl (yaL rfl))) (zat ((zal (i:=4) sc__law_step.nd rfl (yaL rfl))) zbj)))))
   (zad (zas (i:=5) sc__law_step.nd rfl (yaL rfl) (zaq (zfu T) (hr.mono (by decide)) rfl (zaa (pv 3) (zaa (pe_ix (zam (K:=K) rfl) (pv 4) (pe_un zcS zac) (λ_ _=>rfl)) (zaa (pv 1) zae)))))
   (zad (zaI (zdV (K:=K) rfl ya3 ybW ybX zbG (pv 4) (zaa (zaq (zfc T) (hr.mono (by decide)) rfl (zaa (pe_ix (zam (K:=K) rfl) (pv 4) (pe_un zcS zac) (λ_ _=>rfl)) (zaa (pv 5) zae))) zae)))
   (zad (zas (i:=6) sc__law_step.nd rfl (yaL rfl) (zaP T.l_Makes (zdH T) (hr.mono (by decide)) (pv 2) (zaa (pv 5) zae)))
   (zad (zaI (zdG (K:=K) rfl ya3 ydh ydi zee (pv 5)))
   (zad (ps_if (PW.pt (pw_or (zaz op_ne (pv 6) (pe_op zgy (zap (zav (K:=K) rfl) (by rfl) T.b_len za9 (zaa (pv 4) zae)) zac) (zaD _)) (pw_or (zaz op_ne (zcL T.l_Makes (zbg T) (hr.mono (by decide)) (pv 2)) (pv 6) (zaD _)) (zcB (za8 (zap (za1 (K:=K) rfl) (by rfl) T.b_isinstance zaF (zaa (pv 6) (zaa (zbH (v := .ty "bool") rfl T.b_bool zhm rfl) zae)))))))) (zag (zao pe_bl)) zau)
   (zad (zas (i:=7) sc__law_step.nd rfl (yaL rfl) (pe_op zaL (pe_ix (zam (K:=K) rfl) (zaq (za4 T) (hr.mono (by decide)) rfl (zaa (pv 1) (zaa zac zae))) zac (λ_ _=>rfl)) (zap (zav (K:=K) rfl) (by rfl) T.b_len za9 (zaa (pv 4) zae))))
   (zag (zao (zdY (zaq (zaX T) (hr.mono (by decide)) rfl (zaa (pv 2) (zaa (pv 3) (zaa (pv 6) (zaa (pe_ix (zam (K:=K) rfl) (pv 4) (pe_un zcS zac) (λ_ _=>rfl)) zae))))) (zcR (zaq (zaX T) (hr.mono (by decide)) rfl (zaa (pv 2) (zaa (pv 3) (zaa (pv 7) (zaa (pe_ix (zam (K:=K) rfl) (pv 4) (pv 7) (λ_ _=>rfl)) zae))))))))))))))))),?_⟩
  refine sq1 λR1 p1 => ?_;refine ea rfl ⟨S.sc,ea rfl ⟨SqT.of Z.tup,rfl,_,ea rfl ⟨_,ea rfl ⟨_,ea rfl ⟨rfl,p1 ?_⟩⟩⟩⟩⟩;have la:=zh9 (λd:Md=>V.ref d.a) S.mods (by omega);obtain ⟨dl,ao⟩:∃ dl,dl=S.mods[S.mods.length - 1]'(by omega):=⟨_,rfl⟩;rw [<- ao] at la;have aE:dl∈S.mods:=by rw [ao];exact yam _
  have ok:=Z.c.M.ok;refine sq1 λR2 p2 => ?_;refine ea rfl (ea rfl ⟨1,rfl,ixL (SqL.of Z.hml) la (ea rfl ⟨S.tt,S.tl,S.ol,c,S.ts,[],S.tabs,dl,rfl,Z.c.htt,Z.c.htl,Z.c.tabs,ok,Z.c.mods dl aE,λY aa ws H2 s2 G ad av aZ aV az=>p2 ?_⟩)⟩);have Z2:=Z.same s2;refine sq1 λR3 p3 => ?_;refine ea rfl ⟨.inl ⟨rfl,_,SqL.of Z2.hml⟩,ea rfl ⟨1,rfl,ixL (SqL.of Z2.hml) la (ea rfl ⟨dl,S.tabs,Y,aa,ws,rfl,Z2.c.mods dl aE,ok,ad,av,az,λd' H3 s3 new D3 aQ => ?_⟩)⟩⟩;have Z3:=Z2.same s3;refine ⟨_,_,_,rfl,rfl,Z3.hml,by rw [yab];exact zai (by omega),p3 ?_⟩;have ae:(upd H3 S.ml (.lst ((S.mods.map λd=>V.ref d.a) ++ [.ref d'.a]))) S.ml=some (.lst ((S.mods ++ [d']).map λd=>V.ref d.a)):=by rw [zab,yak];rfl
  have l:Ch1 S.ml H3 (upd H3 S.ml (.lst ((S.mods.map λd=>V.ref d.a) ++ [.ref d'.a]))):=λb o n e=>(zaf n).trans e;generalize upd H3 S.ml (.lst ((S.mods.map λd=>V.ref d.a) ++ [.ref d'.a]))=H4 at ae l ⊢;have ab:∀ b xs,H3 b=some (.tup xs)->H4 b=some (.tup xs):=λb xs e=>l b _ (λz=>by rw [z,Z3.hml] at e;cases e) e;have C4:SC T.C_Makes T.C_Schema H4 S:=Z3.c.keep ab (λb u v e=>l b _ (λz=>by rw [z,Z3.hml] at e;cases e) e) λb k o e=>l b o (λz=>Z.nml (z ▸ k)) e;have ar:Y≠S.ml:=λz=>by rw [z,Z.hml] at G;cases G
  have J:H4 Y=some (.lst (aa.map V.ref)):=l _ _ ar (s3 _ _ ad);have am:S.m.own Y=none:=Z.c.M.ms.free G;have aG:WrAt H4 aa ws:=Paired.mapP av λ_ _ e=>ab _ _ (s3 _ _ e);have aI:d'.a≠S.ml:=λz=>by have:=new.1;rw [z,Z2.hml] at this;cases this
  have aB:∀ t∈S.tabs,d'.f t.1≠S.ml:=λt g z=>by have:=new.2 _ (zaw g);rw [z,Z2.hml] at this;cases this
  have D4:MdOk H4 S.tabs d':=D3.keep ab (λo e=>l _ _ aI e) λnm hn o e=>by
   obtain ⟨t,g,rfl⟩:=yao.mp hn;exact l _ _ (aB t g) e
  have aA:S.m.own d'.a=none:=Z2.c.M.ms.free new.1;have ay:∀ t∈S.tabs,S.m.own (d'.f t.1)=none:=λt g=>Z2.c.M.ms.free (new.2 _ (zaw g));have dn:∀ t∈S.tabs,d'.f t.1≠S.dd:=λt g z=>by
   obtain ⟨cas,e⟩:=Z2.c.ddAt;have:=new.2 _ (zaw g);rw [z,e] at this;cases this
  have ln:=Z.p.len;have cn:=Z.p.cnt;refine sq1 λR4 p4 => ?_;refine ea rfl ⟨S.mo,_,_,rfl,C4.M.ms.obj,by kernel_rfl,ea rfl ⟨S.mo,Y,S.m,S.tabs,S.ords,aa,ws,rfl,C4.M,J,am,aG,λw hw => ?_,by omega,by omega,λH5 B M5 fo W=>p4 ?_⟩⟩
  ·obtain ⟨t,g,e1,e2,_⟩:=az w hw;rw [e1];exact ⟨by rw [C4.M.nm];exact zaw g,by rw [Z.p.U t g];exact e2⟩
  have aj:∀ b xs,H4 b=some (.tup xs)->H5 b=some (.tup xs):=λb xs e=>fo b _ (C4.M.ms.tup e) e;have D5:MdOk H5 S.tabs d':=D4.keep aj (λo e=>fo _ _ aA e) λnm hn o e=>by
   obtain ⟨t,g,rfl⟩:=yao.mp hn;exact fo _ _ (ay t g) e
  have ex:∀ b∈(S.more B d').fix,S.m.own b=none/\H4 b≠none:=λb k=>by
   rcases zeb W.sc k with z | z | ⟨t,g,z⟩
   ·obtain ⟨o,e⟩:=C4.ex (.inr z);exact ⟨Z.p.own b z,by rw [e];exact λy=>nomatch y⟩
   ·rw [z];exact ⟨aA,by rw [D4.at_.out];exact λy=>nomatch y⟩
   ·rw [z];exact ⟨ay t g,by rw [D4.at_.ins _ (zaw g)];exact λy=>nomatch y⟩
  have P5:SP (S.more B d'):=Z.p.more W aV aZ ok (by omega) (ao ▸ aQ) ex dn;have C5:SC T.C_Makes T.C_Schema H5 (S.more B d'):=C4.more M5 W.sc aj (λb k o e=>fo b o (Z.p.own b k) e) D5;have au:S.m.own S.ml=none:=by
   cases z:S.m.own S.ml with
   | none=>rfl
   | some r=>exact absurd (yaL (by rw [z];exact λy=>nomatch y)) Z.nml
  have aW:=fo _ _ au ae;have I:=fo _ _ am J;have O:∀ b,B.own b≠none->S.m.own b≠none\/H4 b=none:=W.own;refine sq1 λR5 p5 => ?_;refine ea rfl ⟨.inl ⟨rfl,_,SqL.of I⟩,Y,_,rfl,rfl,I,p5 ?_⟩;have C:Ch1 Y H5 (upd H5 Y (.lst [])):=λb o n e=>(zaf n).trans e;generalize upd H5 Y (.lst [])=H6 at C ⊢;have aD:∀ b,(S.more B d').part b->b≠Y:=λb k z=>by
   subst z;rcases k with k | k
   ·rcases O b k with y | y
    ·exact y am
    ·rw [J] at y;cases y
   ·rcases zeb W.sc k with y | y | ⟨t,g,y⟩
    ·obtain ⟨o,e⟩:=Z.c.ex (.inr y);rw [G] at e;cases e
    ·have:=new.1;rw [<- y,ad] at this;cases this
    ·have:=new.2 _ (zaw g);rw [<- y,ad] at this;cases this
  have C6:SC T.C_Makes T.C_Schema H6 (S.more B d'):=C5.keep (λb xs e=>C b _ (λz=>by rw [z,I] at e;cases e) e) (λb u v e=>C b _ (λz=>by rw [z,I] at e;cases e) e) λb k o e=>C b o (aD b k) e;have ak:H6 S.ml=some (.lst ((S.mods ++ [d']).map λd=>V.ref d.a)):=C _ _ (ybt ar) aW;have R:((S.mods ++ [d']).map λd=>V.ref d.a).length=S.mods.length+1:=by rw [yab,yaK];rfl
  have eL:B.L=S.m.L+1:=W.eL;have af:((S.more B d').mods).length=S.mods.length+1:=by show (S.mods ++ [d']).length=_;rw [yaK];rfl
  refine sq1 λR6 p6 => ?_;refine ea rfl (ea rfl ⟨_,_,rfl,.inl (SqL.of ak),_,_,rfl,rfl,rfl,ea rfl (ite2 (λz => ?_) (λ_ => ?_))⟩)
  ·exfalso;rw [R] at z;have:(S.m.L+1:Int)=((S.mods.length+1:Nat):Int) - 1:=by omega
   rw [decide_eq_true (by rw [this])] at z;cases z
  refine ea rfl ⟨S.mo,_,_,rfl,C6.M.ms.obj,by kernel_rfl,S.mo,B,rfl,C6.M.ms,ea rfl ⟨rfl,ea rfl (ite2 (λz => ?_) (λ_ => ?_))⟩⟩
  ·exfalso;rw [eL] at z;simp at z
  refine ea rfl ⟨_,_,_,_,rfl,.int _,(by kernel_rfl:ybg K (.type "int") (.type "bool")=some false),ea rfl (p6 ?_)⟩;refine sq1 λR7 p7 => ?_;refine ea rfl ⟨c,30,rfl,by decide,by decide,λD ds H7 s7 hD eD a8 a1 => ?_⟩;have an:=s7 _ _ ak;have N:(0:Int) < ((((S.mods ++ [d']).map λd=>V.ref d.a).length:Nat):Int):=by rw [R];omega
  refine ixLc (SqL.of eD) (zaO (by decide) (by omega)) (ea rfl ⟨_,_,rfl,.inl (SqL.of an),_,_,rfl,rfl,N,p7 ?_⟩);have x0:=md0 (ds.getD (29:Int).toNat 0) N;have x1:=md1 (ds.getD (29:Int).toNat 0) N;obtain ⟨j,hj⟩:∃ j:Nat,ds.getD (29:Int).toNat 0 % ((((S.mods ++ [d']).map λd=>V.ref d.a).length:Nat):Int)=(j:Int):=⟨_,(yfi x0).symm⟩;dsimp only;rw [hj];have jl:j < (S.more B d').mods.length:=by rw [af];rw [hj,R] at x1;omega
  have C7:=C6.same s7;have aU:atI ((S.mods ++ [d']).map λd=>V.ref d.a) (-1)=some (.ref d'.a):=by
   rw [yak];exact zhK _ _
  have aJ:MdT T.C_Makes T.C_Schema H7 S.mo S.tt (S.m.L+1) d' B S.tabs S.ords:=by
   have:=C7.mdt P5 (j:=S.mods.length) (by rw [af];omega);have e:(S.more B d').mods[S.mods.length]'(by rw [af];omega)=d':=by
    exact more_last S.mods d' _
   rw [e,ln] at this;exact this
  refine ea rfl (ea rfl (ea rfl (ea rfl ⟨1,rfl,ixL (SqL.of an) aU ⟨S.mo,S.tt,S.m.L+1,d',B,S.tabs,S.ords,rfl,aJ,λH8 s8=>⟨true,rfl,?_⟩⟩⟩)));have C8:=C7.same s8;have aR:atI ((S.mods ++ [d']).map λd=>V.ref d.a) (j:Int)=some (.ref ((S.more B d').mods[j]).a):=by
   refine zdE ?_;rw [yaf,yaa (show j < (S.mods ++ [d']).length from jl)];rfl
  refine ea rfl (ea rfl (ea rfl (ea rfl (ea rfl (ixL (SqL.of (s8 _ _ an)) aR ⟨S.mo,S.tt,(j:Int),(S.more B d').mods[j],B,S.tabs,S.ords,rfl,C8.mdt P5 jl,λH9 s9 => ?_⟩)))));have ac:=(s7.trans s8).trans s9;refine q (S.more B d') H9 ⟨C6.same ac,P5,?_,ac _ _ ak,λz => ?_⟩ rfl rfl af (λb o k nb e => ?_) λb k => ?_
  ·have tp:=aj _ _ (ab _ _ Z3.tup);exact ac _ _ (C S.sc _ (λz=>by rw [z,I] at tp;cases tp) tp)
  ·rcases z with z | z
   ·rcases O _ z with y | y
    ·exact y au
    ·have y':H4 S.ml=none:=y;rw [ae] at y';cases y'
   ·rcases zeb W.sc z with y | y | ⟨t,g,y⟩
    ·exact Z.nml (.inr y)
    ·exact aI y.symm
    ·exact aB t g y.symm
  ·exact ac _ _ (C b o (λz=>by rw [z,G] at e;cases e) (fo b o k (l b o nb (s3 _ _ (s2 _ _ e)))))
  ·rcases k with k | k
   ·rcases O b k with y | y
    ·exact .inl (.inl y)
    ·by_cases z:b=S.ml
     ·rw [z,ae] at y;cases y
     ·right;cases e:H b with
      | none=>rfl
      | some o=>rw [l b o z (s3 _ _ (s2 _ _ e))] at y;cases y
   ·rcases zeb W.sc k with y | y | ⟨t,g,y⟩
    ·exact .inl (.inr y)
    ·right;rw [y];exact s2.free new.1
    ·right;rw [y];exact s2.free (new.2 _ (zaw g))
structure Tw (C Cs:Addr) (H:Hp) (A B:Scn) (ks:List Addr):Prop where
 a:SAt C Cs H A
 b:SAt C Cs H B
 dj:∀ x,A.all x->B.all x->False
 ka:∀ x∈ks,¬ A.all x
 kb:∀ x∈ks,¬ B.all x
 kx:∀ x∈ks,∃ o,H x=some o
section
variable {C Cs:Addr} {H H':Hp} {A A' B:Scn} {ks:List Addr}
theorem Tw.symm (h:Tw C Cs H A B ks):Tw C Cs H B A ks:=⟨h.b,h.a,λx p q=>h.dj x q p,h.kb,h.ka,h.kx⟩
theorem Tw.same (h:Tw C Cs H A B ks) (s:Same H H'):Tw C Cs H' A B ks:=⟨h.a.same s,h.b.same s,h.dj,h.ka,h.kb,λx c=>let ⟨o,e⟩:=h.kx x c;⟨o,s _ _ e⟩⟩
theorem SAt.exA (h:SAt C Cs H A) {b:Addr} (a:A.all b):∃ o,H b=some o:=by
 rcases a with a | rfl
 ·exact h.c.ex a
 ·exact ⟨_,h.hml⟩
theorem Tw.step (h:Tw C Cs H A B ks) (Z:SAt C Cs H' A') (e2:A'.ml=A.ml) (fr:∀ b o,A.m.own b=none->b≠A.ml->H b=some o->H' b=some o) (q:∀ b,A'.part b->A.part b\/H b=none):Tw C Cs H' A' B ks/\∀ x∈ks,∀ o,H x=some o->H' x=some o:=by
 have d:∀ b,¬ A.all b->A.m.own b=none/\b≠A.ml:=λb f=>by
  refine ⟨?_,λz=>f (.inr z)⟩;cases z:A.m.own b with
  | none=>rfl
  | some r=>exact absurd (yaL (yaL (by rw [z];exact λy=>nomatch y))) f
 have j:∀ b,B.all b->∀ o,H b=some o->H' b=some o:=λb f o e=>fr b o (d b λy=>h.dj b y f).1 (d b λy=>h.dj b y f).2 e;have k:∀ b xs,H b=some (.tup xs)->H' b=some (.tup xs):=λb xs e=>fr b _ (h.a.c.M.ms.tup e) (λz=>by rw [z,h.a.hml] at e;cases e) e;have n:∀ b u v,H b=some (.frz u v)->H' b=some (.frz u v):=λb u v e=>fr b _ (h.a.c.M.ms.frz e) (λz=>by rw [z,h.a.hml] at e;cases e) e;have l:∀ b,A'.all b->A.all b\/H b=none:=λb f=>by
  rcases f with f | f
  ·rcases q b f with y | y
   ·exact .inl (.inl y)
   ·exact .inr y
  ·exact .inl (.inr (f.trans e2))
 refine ⟨⟨Z,⟨h.b.c.keep k n λb f=>j b (.inl f),h.b.p,k _ _ h.b.tup,j _ (.inr rfl) _ h.b.hml,h.b.nml⟩,λx g i => ?_,λx g i => ?_,h.kb,λx g => ?_⟩,λx g o e=>fr x o (d x (h.ka x g)).1 (d x (h.ka x g)).2 e⟩
 ·rcases l x g with y | y
  ·exact h.dj x y i
  ·obtain ⟨o,e⟩:=h.b.exA i;rw [y] at e;cases e
 ·rcases l x i with y | y
  ·exact h.ka x g y
  ·obtain ⟨o,e⟩:=h.kx x g;rw [y] at e;cases e
 ·obtain ⟨o,e⟩:=h.kx x g;exact ⟨o,fr x o (d x (h.ka x g)).1 (d x (h.ka x g)).2 e⟩
end
theorem cut_ints (ns:List Int) (lo hi:Option Int):∃ cs:List Int,cutV (ns.map V.int) lo hi=cs.map V.int/\cs.length<=ns.length:=by
 unfold cutV;rw [<- yes,<- List.map_take];exact ⟨_,rfl,by rw [yaA,ybk];omega⟩
def zgo (K:PySem.W.Frag):Sp:=λvs H Q _=>∃ (a:Addr) (ns:List Int),vs = [.ref a]/\SqL K H a (ns.map V.int)/\ns.length<=63/\∀ H':Hp,Q (.bl true) H'
theorem ok_law (T:Txt K mg):FnOk P w K mg base CX0 10 T.law.f T.law.fd ["_law_script"] (zgo K):=by
 refine T.law.fn.ok sc_law (λvs H Q E h => ?_) (λcE A outer s H vs Q E U h => ?_)
 ·obtain ⟨a,ns,rfl,_⟩:=h;rfl
 ·obtain ⟨a,ns,rfl,ha,ct,q⟩:=h;have cO:=hu_of U;have a7:=U.units0;refine ⟨_,((zad (zas (i:=1) sc_law.nd rfl (yaL rfl) (za3 (zaa (zaq (zdr T) (U.mono (by decide)) rfl (zaa (pv 0) (zaa zac zae))) (zaa (zaq (zdr T) (U.mono (by decide)) rfl (zaa (pv 0) (zaa zac zae))) zae))))
   (zad (zaV yaQ rfl (zaA (K:=K) rfl (pv 1)) (zal (i:=2) sc_law.nd rfl (yaL rfl)) (zag (ps_if (PW.pt (pw_or (zaz (op_eqE (K:=K) rfl a7) (pe_ix (zak (K:=K) rfl) (pv 2) zac (λ_ _=>rfl)) (za3 zae) (zaD _)) (pw_or (zaz op_ne (zcL T.l_Makes (zbg T) (U.mono (by decide)) (pe_ix (zak (K:=K) rfl) (pv 2) zac (λ_ _=>rfl))) zac (zaD _)) (zcB (zbb (za8 (zaq (zaX T) (U.mono (by decide)) rfl (zaa (pe_ix (zak (K:=K) rfl) (pv 2) zac (λ_ _=>rfl)) (zaa (pe_ix (zak (K:=K) rfl) (pv 2) zac (λ_ _=>rfl)) (zaa zac (zaa (pe_ix (zam (K:=K) rfl) (pe_ix (zak (K:=K) rfl) (pv 2) zac (λ_ _=>rfl)) zac (λ_ _=>rfl)) zae))))))))))) (zag (zao pe_bl)) zau)))
   (zad (zaV yaQ rfl (zaA (K:=K) rfl (pe_op op_cat (zbq (zek (K:=K) rfl) (pv 0) (zbf zac) (zbf zac)) (za3 (zaa zac (zaa (pe_op zbr (pe_op zfO zac zac) zac) zae))))) (zal (i:=3) sc_law.nd rfl (yaL rfl)) (zag (ps_if (zbb (za8 (zaq (zgP T) (U.mono (by decide)) rfl (zaa (pe_ix (zam (K:=K) rfl) (pv 1) (pe_op zaL (pe_ix (zam (K:=K) rfl) (zaq (za4 T) (U.mono (by decide)) rfl (zaa (pv 3) (zaa zac zae))) zac (λ_ _=>rfl)) zac) (λ_ _=>rfl)) (zaa (pv 3) zae))))) (zag (zao pe_bl)) zau)))
   (zad (zaV yaQ rfl (zaA (K:=K) rfl (pv 1)) (zbe (K:=K) (n:=3) rfl rfl (zat ((zal (i:=4) sc_law.nd rfl (yaL rfl))) (zat ((zal (i:=5) sc_law.nd rfl (yaL rfl))) (zat ((zal (i:=6) sc_law.nd rfl (yaL rfl))) zbj)))) (zad (zaV yaQ rfl (zbd rfl T.b_range (zaa (zap (zav (K:=K) rfl) (by rfl) T.b_len za9 (zaa (pv 6) zae)) zae)) (zal (i:=7) sc_law.nd rfl (yaL rfl)) (zag (ps_if (zbb (za8 (zaq (zaX T) (U.mono (by decide)) rfl (zaa (pv 4) (zaa (pv 5) (zaa (pv 7) (zaa (pe_ix (zam (K:=K) rfl) (pv 6) (pv 7) (λ_ _=>rfl)) zae))))))) (zag (zao pe_bl)) zau)))
   (zag (ps_if (zbb (za8 (zaq (zfr T) (U.mono (by decide)) rfl (zaa (pv 4) (zaa (pv 5) (zaa (pe_op zgy (zap (zav (K:=K) rfl) (by rfl) T.b_len za9 (zaa (pv 6) zae)) zac) (zaa (pe_ix (zam (K:=K) rfl) (pv 6) (pe_un zcS zac) (λ_ _=>rfl)) zae))))))) (zag (zao pe_bl)) zau))))
   (zad (zas (i:=8) sc_law.nd rfl (yaL rfl) (zfW T.k_Makes (zb0 T) (U.mono (by decide)) rfl T.c_Makes (bi1_Makes T) (dvs := [.non]) (.cons rfl .nil) pass0 (zaa (zfW T.k_Schema (zbO T) (U.mono (by decide)) rfl T.c_Schema (zgH T) .nil pass0 (zaa (pe_ix (zak (K:=K) rfl) (pe_ix (zak (K:=K) rfl) (pe_ix (zam (K:=K) rfl) (pv 1) zac (λ_ _=>rfl)) zac (λ_ _=>rfl)) zac (λ_ _=>rfl)) (zaa (pe_ix (zak (K:=K) rfl) (pe_ix (zak (K:=K) rfl) (pe_ix (zam (K:=K) rfl) (pv 1) zac (λ_ _=>rfl)) zac (λ_ _=>rfl)) zac (λ_ _=>rfl)) zae))) zae)))
   (zag (zao (zdY (zby (op_eqLK (K:=K) rfl a7) (zaP T.l_Makes (zbx T) (U.mono (by decide)) (pv 8) (zaa zac (zaa (pe_ix (zak (K:=K) rfl) (pe_ix (zam (K:=K) rfl) (pe_ix (zak (K:=K) rfl) (pe_ix (zak (K:=K) rfl) (pe_ix (zam (K:=K) rfl) (pv 1) zac (λ_ _=>rfl)) zac (λ_ _=>rfl)) zac (λ_ _=>rfl)) zac (λ_ _=>rfl)) zac (λ_ _=>rfl)) zae))) (za3 zae) (zaD _)) (zcR (zby op_eq (zcL T.l_Makes (zbg T) (U.mono (by decide)) (pv 8)) zac (zaD _)))))))))))),?_⟩
  refine sq1 λR1 p1 => ?_;refine ea rfl ⟨a,ns,0,rfl,ha,by decide,by decide,λO H1 s1 ZA lA nA mA=>ea rfl ⟨a,ns,1,rfl,zef ha s1,by decide,by decide,λSB H2 s2 ZB lB nB mB=>⟨zah (show 2<=100000 by decide),λy av=>p1 ?_⟩⟩⟩;have s3:Same H2 (upd H2 y (.lst [.ref O.sc,.ref SB.sc])):=Same.new av;have af:(upd H2 y (.lst [.ref O.sc,.ref SB.sc])) y=some (.lst [.ref O.sc,.ref SB.sc]):=zab;generalize upd H2 y (.lst [.ref O.sc,.ref SB.sc])=H3 at s3 af ⊢;have aS:=ZA.same s2;have W3:Tw T.C_Makes T.C_Schema H3 O SB [y]:=by
   refine ⟨aS.same s3,ZB.same s3,λx g F => ?_,λx g F => ?_,λx g F => ?_,λx g => ?_⟩
   ·obtain ⟨o,e⟩:=ZA.exA g;rcases F with F | F
    ·rw [nB x F] at e;cases e
    ·rw [F,mB] at e;cases e
   ·rw [yai.mp g] at F;obtain ⟨o,e⟩:=aS.exA F;rw [av] at e;cases e
   ·rw [yai.mp g] at F;obtain ⟨o,e⟩:=ZB.exA F;rw [av] at e;cases e
   ·rw [yai.mp g];exact ⟨_,af⟩
  have S3:Same H H3:=(s1.trans s2).trans s3;have bA:=zef ha S3;refine sqC (λu H4=>∃ v2:Option V,u = [some (.ref a),some (.ref y),v2,none,none,none,none,none,none]/\Same H3 H4) ?_ ?_
  ·rintro u H4 ⟨v2,rfl,s4⟩;have W4:=W3.same s4;have aU:=s4 _ _ af;have br:=zef bA s4;refine sqC (λu H5=>∃ (v3:Option V) (A B:Scn),u = [some (.ref a),some (.ref y),v2,v3,none,none,none,none,none]/\Tw T.C_Makes T.C_Schema H5 A B [y]/\A.sc=O.sc/\B.sc=SB.sc/\H5 y=some (.lst [.ref O.sc,.ref SB.sc])/\1<=A.mods.length/\1<=B.mods.length/\A.mods.length<=100/\B.mods.length<=100) ?_ ?_
   ·rintro u H5 ⟨v3,A,B,rfl,W5,eA,eB,aB,bo,b0,cY,cp⟩;refine sqC (λu Y=>∃ (v4 v5 v6 v7:Option V),u = [some (.ref a),some (.ref y),v2,v3,v4,v5,v6,v7,none]/\Same H5 Y) ?_ ?_
    ·rintro u Y ⟨v4,v5,v6,v7,rfl,s6⟩;have Z6:=W5.a.same s6;have am:=s6 _ _ aB;have ok:=Z6.c.M.ok;rw [<- eA] at am;have cb:A.ts.length=A.tabs.length:=yaC Z6.c.tabs;have t0:0 < A.ts.length:=by have:=ok.1;omega
     obtain ⟨cH,cy,bW,_⟩:=Paired.at Z6.c.tabs 0 t0 (by omega);refine sq1 λR6 p6 => ?_;refine ea rfl (ixLc (v := .ref A.sc) (SqL.of am) (at0 _ _) (ixTc (v := .ref A.tt) (SqT.of Z6.tup) rfl (ixTc (v := .ref A.tl) (SqT.of Z6.c.htt) rfl (ea rfl (ixLc (v := .ref A.sc) (SqL.of am) (at0 _ _) (ixTc (v := .ref A.tt) (SqT.of Z6.tup) rfl (ixTc (v := .ref A.ol) (SqT.of Z6.c.htt) rfl λsc dx aN bz bR => ?_)))))));have s7:Same Y (upd (upd Y dx (.own sc)) sc (.ins T.C_Schema dx [])):=(Same.new bz).trans (Same.new (by rw [zaf (ybt bR)];exact aN));have a8:(upd (upd Y dx (.own sc)) sc (.ins T.C_Schema dx [])) sc=some (.ins T.C_Schema dx []):=zab;generalize upd (upd Y dx (.own sc)) sc (.ins T.C_Schema dx [])=H7 at s7 a8 ⊢;have Z7:=Z6.same s7;have bV:TabsI H7 A.ts A.tabs:=Paired.mapP Z7.c.tabs λ_ _ ⟨ca,cq,x1,x2,x3,_⟩=>⟨ca,cq,x1,.inl x2,x3⟩;refine ⟨sc,dx,A.tl,.ref A.ol,A.ts,A.tabs,A.ords,rfl,a8,.inl Z7.c.htl,bV,ok,.inr ⟨A.ol,A.qs,rfl,.inl Z7.c.hol,Z7.c.cols⟩,W5.a.p.okO,λH8 cV t8 c0 cQ e8 ce a0 bY=>⟨rfl,λmo dm al bE bL => ?_⟩⟩;have a9:Same Y H8:=λb o e=>bY b o (s7 _ _ e) (λz=>by rw [z,aN] at e;cases e);have s9:Same H8 (upd (upd H8 dm (.own mo)) mo (.ins T.C_Makes dm [])):=(Same.new bE).trans (Same.new (by rw [zaf (ybt bL)];exact al));have aY:(upd (upd H8 dm (.own mo)) mo (.ins T.C_Makes dm [])) mo=some (.ins T.C_Makes dm []):=zab;generalize upd (upd H8 dm (.own mo)) mo (.ins T.C_Makes dm [])=H9 at s9 aY ⊢;have bS:sc≠mo:=λz=>by rw [<- z,e8] at al;cases al
     refine ⟨mo,dm,sc,.non,A.tabs,A.ords,Uof A.tabs,[],rfl,aY,a0.kept s9,ok,bS,λnm hn => ?_,.inl ⟨rfl,rfl⟩,(λ_ z=>nomatch z),by decide,λbQ m ae a4 J=>⟨rfl,p6 ?_⟩⟩
     ·obtain ⟨t,ht,rfl⟩:=yao.mp hn;rw [zhz ok.2.2.2 ht];exact ⟨zed (keyKd (ok.2.2.1 t ht)),zel (keyKd (ok.2.2.1 t ht))⟩
     have G:Same Y bQ:=λb o e=>a4 b o (λz=>by have:=a9 _ _ e;rw [z,al] at this;cases this) (s9 _ _ (a9 _ _ e));have a5:=G _ _ bW;have n0:A.tabs[0].1∈m.names:=by
      rw [ae.nm];exact zaw (yam _)
     have kn:(m.ks A.tabs[0].1).map (·.1) = []:=by
      cases e:(m.ks A.tabs[0].1).map (·.1) with
      | nil=>rfl
      | cons k r =>
       have:k∈(m.ks A.tabs[0].1).map (·.1):=by rw [e];exact yax
       obtain ⟨w,hw,_⟩:=(J.keys _ _).mp this;cases hw
     have atT:atI (A.ts.map V.ref) 0=some (.ref A.ts[0]):=zdE (j:=0) (by rw [yaf,yaa t0];rfl);refine ea rfl ⟨mo,_,_,rfl,ae.ms.obj,by kernel_rfl,ea rfl (ixLc (v := .ref A.sc) (SqL.of (G _ _ am)) (at0 _ _) (ixTc (v := .ref A.tt) (SqT.of (G _ _ Z6.tup)) rfl (ixTc (v := .ref A.tl) (SqT.of (G _ _ Z6.c.htt)) rfl (ixLc (v := .ref A.ts[0]) (SqL.of (G _ _ Z6.c.htl)) atT (ixTc (v := .str A.tabs[0].1) (SqT.of a5) rfl ⟨mo,m,A.tabs,A.ords,0,_,rfl,ae,by decide,by rw [J.L];decide,n0,λl bb ms hl a3 pm sk bv=>⟨yaW _,λe he => ?_⟩⟩)))))⟩;rw [kn] at pm;have bZ:ms = []:=List.Perm.eq_nil pm;subst bZ;have aq:Same bb (upd bb e (.lst [])):=Same.new he;refine ⟨l,e,[],[],rfl,rfl,SqL.of (aq _ _ bv),SqL.of zab,rfl,rfl,true,rfl,?_⟩;refine ea rfl ⟨mo,_,_,rfl,(ae.same (a3.trans aq)).ms.obj,by kernel_rfl,mo,m,rfl,(ae.same (a3.trans aq)).ms,rfl,?_⟩;rw [J.L];exact q _
    ·intro N hN;refine ea rfl ⟨y,rfl,⟨_,SqL.of aB⟩,?_⟩;refine za0 (K:=K) (a:=y) (xs := [.ref O.sc,.ref SB.sc]) (λi u C=>∃ (v4 v5 v6 v7:Option V),u = [some (.ref a),some (.ref y),v2,v3,v4,v5,v6,v7,none]/\Same H5 C) ⟨none,none,none,none,rfl,λ_ _ e=>e⟩ (by rintro i u C _ ⟨_,_,_,_,_,sx⟩;exact SqL.of (sx _ _ aB)) ?_ ?_
     ·rintro i x u C g ⟨v4,v5,v6,v7,rfl,sx⟩;obtain ⟨S,rfl,Z5,l1⟩:∃ S:Scn,x = .ref S.sc/\SAt T.C_Makes T.C_Schema H5 S/\1<=S.mods.length:=by
       match i,g with
       | 0,g=>cases g;exact ⟨A,by rw [eA],W5.a,bo⟩
       | 1,g=>cases g;exact ⟨B,by rw [eB],W5.b,b0⟩
      have Z:=Z5.same sx;clear g;refine ⟨S.sc,ea rfl ⟨SqT.of Z.tup,rfl,_,ea rfl ⟨_,ea rfl ⟨_,ea rfl ⟨rfl,?_⟩⟩⟩⟩⟩;have ml:=Z.hml;have R:(S.mods.map λd=>V.ref d.a).length=S.mods.length:=by rw [yab]
      have b5:S.mods.length<=2000:=by
       have:=Z.p.len;have:=Z.c.M.ms.l1;omega
      refine sqC (λu Hy=>∃ v7:Option V,u = [some (.ref a),some (.ref y),v2,v3,some (.ref S.mo),some (.ref S.tt),some (.ref S.ml),v7,none]/\Same C Hy) ?_ ?_
      ·rintro u Hy ⟨ay,rfl,sy⟩;have Zy:=Z.same sy;have la:=zh9 (λd:Md=>V.ref d.a) S.mods (by omega);have el:((S.mods.map λd=>V.ref d.a).length:Int) - 1=((S.mods.length - 1:Nat):Int):=by rw [R];omega
       refine ea rfl (ea rfl (ea rfl ⟨_,_,rfl,.inl (SqL.of Zy.hml),_,_,rfl,rfl,ea rfl ⟨1,rfl,ixL (SqL.of Zy.hml) la ⟨S.mo,S.tt,_,S.mods[S.mods.length - 1]'(by omega),S.m,S.tabs,S.ords,rfl,by rw [el];exact Zy.c.mdt Zy.p (by omega),λHz sz=>ea rfl (iteF ?_)⟩⟩⟩));exact ⟨_,_,_,_,rfl,(sx.trans sy).trans sz⟩
      ·intro N2 bN;refine ea rfl ⟨_,_,rfl,.inl (SqL.of ml),_,rfl,by rw [R];omega,by rw [R];omega,?_⟩;rw [R];refine zbs (lo:=0) (n:=((S.mods.length:Nat):Int).toNat) (λj u Hy=>∃ v7:Option V,u = [some (.ref a),some (.ref y),v2,v3,some (.ref S.mo),some (.ref S.tt),some (.ref S.ml),v7,none]/\Same C Hy) ⟨v7,rfl,λ_ _ e=>e⟩ ?_ ?_
       ·rintro j u Hy hj ⟨ay,rfl,sy⟩;have Zy:=Z.same sy;have bc:j < S.mods.length:=by omega
        have e0:(0:Int)+(j:Int)=(j:Int):=by omega
        have bD:atI (S.mods.map λd=>V.ref d.a) (0+(j:Int))=some (.ref (S.mods[j]).a):=by
         rw [e0];refine zdE ?_;rw [yaf,yaa bc];rfl
        refine ea rfl (ea rfl (ea rfl (ea rfl (ea rfl (ixL (SqL.of Zy.hml) bD ⟨S.mo,S.tt,_,S.mods[j],S.m,S.tabs,S.ords,rfl,by rw [e0];exact Zy.c.mdt Zy.p bc,λHz sz=>ea rfl (iteF ?_)⟩)))));exact ⟨_,rfl,sy.trans sz⟩
       ·rintro u Hy ⟨ay,rfl,sy⟩;exact bN _ _ ⟨ay,rfl,sy⟩
     ·rintro u C ⟨v4,v5,v6,v7,rfl,sx⟩;exact hN _ _ ⟨v4,v5,v6,v7,rfl,sx⟩
   ·intro N hN;obtain ⟨cs,bB,cR⟩:=cut_ints ns (some 3) (some 33);refine ea rfl ⟨_,rfl,_,rfl,a,_,rfl,br,λl1 bt => ?_⟩;rw [bB];have s5:Same H4 (upd H4 l1 (.lst (cs.map V.int))):=Same.new bt;have e5:(upd H4 l1 (.lst (cs.map V.int))) l1=some (.lst (cs.map V.int)):=zab;generalize upd H4 l1 (.lst (cs.map V.int))=H5 at s5 e5 ⊢;refine ⟨10,18,rfl,rfl,⟨by decide,by decide,by decide⟩,_,_,rfl,rfl,zah (show 2<=100000 by decide),λl2 bJ => ?_⟩;have s6:Same H5 (upd H5 l2 (.lst [.int 6,.int (10 ^ (18:Int).toNat+7)])):=Same.new bJ;have e6:(upd H5 l2 (.lst [.int 6,.int (10 ^ (18:Int).toNat+7)])) l2=some (.lst ([6,10 ^ (18:Int).toNat+7].map V.int)):=zab;generalize upd H5 l2 (.lst [.int 6,.int (10 ^ (18:Int).toNat+7)])=Y at s6 e6 ⊢;refine ⟨l1,l2,_,_,rfl,rfl,s6 _ _ e5,e6,?_,λLc au => ?_⟩
    ·rw [yab,yab];exact zah (show cs.length+2<=100000 by omega)
    have s7:Same Y (upd Y Lc (.lst (cs.map V.int ++ [6,10 ^ (18:Int).toNat+7].map V.int))):=Same.new au;have e7:(upd Y Lc (.lst (cs.map V.int ++ [6,10 ^ (18:Int).toNat+7].map V.int))) Lc=some (.lst ((cs ++ [6,10 ^ (18:Int).toNat+7]).map V.int)):=by rw [zab,yak]
    generalize upd Y Lc (.lst (cs.map V.int ++ [6,10 ^ (18:Int).toNat+7].map V.int))=H7 at s7 e7 ⊢;have aR:(cs ++ [6,10 ^ (18:Int).toNat+7]).length<=65:=by rw [yaK];simp;omega
    generalize cs ++ [6,10 ^ (18:Int).toNat+7]=I at e7 aR;have aZ:=s5.trans s6;have aH:=aZ.trans s7;have W6:=W4.same aZ;have W7:Tw T.C_Makes T.C_Schema H7 O SB [y,Lc]:=by
     have W7:=W4.same aH;refine ⟨W7.a,W7.b,W7.dj,λx g F => ?_,λx g F => ?_,λx g => ?_⟩
     ·rcases yaJ.mp g with z | z
      ·exact W7.ka x (by rw [z];exact yai.mpr rfl) F
      ·rw [yai.mp z] at F;obtain ⟨o,e⟩:=W6.a.exA F;rw [au] at e;cases e
     ·rcases yaJ.mp g with z | z
      ·exact W7.kb x (by rw [z];exact yai.mpr rfl) F
      ·rw [yai.mp z] at F;obtain ⟨o,e⟩:=W6.b.exA F;rw [au] at e;cases e
     ·rcases yaJ.mp g with z | z
      ·rw [z];exact ⟨_,aH _ _ aU⟩
      ·rw [yai.mp z];exact ⟨_,e7⟩
    refine ⟨Lc,rfl,⟨_,SqL.of e7⟩,?_⟩;refine za0 (K:=K) (a:=Lc) (xs:=I.map V.int) (λi u C=>∃ (v3:Option V) (A B:Scn),u = [some (.ref a),some (.ref y),v2,v3,none,none,none,none,none]/\Tw T.C_Makes T.C_Schema C A B [y,Lc]/\A.sc=O.sc/\B.sc=SB.sc/\C y=some (.lst [.ref O.sc,.ref SB.sc])/\C Lc=some (.lst (I.map V.int))/\1<=A.mods.length/\1<=B.mods.length/\A.mods.length<=1+i/\B.mods.length<=1+i)
     ⟨none,O,SB,rfl,W7,rfl,rfl,aH _ _ aU,e7,by omega,by omega,by omega,by omega⟩ (by rintro i u C _ ⟨_,_,_,_,_,_,_,_,h,_⟩;exact SqL.of h) ?_ ?_
    ·rintro i x u C g ⟨v3,A,B,rfl,W,eA,eB,aD,bd,a1,b1,a2,b2⟩;have hi:i < I.length:=by
      have:=(List.getElem?_eq_some_iff.1 g).1
      rwa [yab] at this
     rw [yaf,yaa hi] at g;cases g;refine ea rfl (ea rfl ⟨_,31,rfl,by decide,by decide,λD ds H8 s8 hD eD dl dn => ?_⟩);have W8:=W.same s8;have ak:=s8 _ _ aD;have aW:=s8 _ _ bd;have r0:=md0 (ds.getD (30:Int).toNat 0) (show (0:Int) < 2 by decide);have r1:=md1 (ds.getD (30:Int).toNat 0) (show (0:Int) < 2 by decide);refine ixLc (SqL.of eD) (zaO (by decide) (by omega)) ⟨_,_,rfl,rfl,(show (0:Int) < 2 by decide),?_⟩;have rr:ds.getD (30:Int).toNat 0 % 2=0\/ds.getD (30:Int).toNat 0 % 2=1:=by omega
     rcases rr with rr | rr
     ·refine ixL (v := .ref A.sc) (SqL.of ak) (by rw [rr,eA];rfl) (ea rfl ⟨A,_,rfl,W8.a,a1,by omega,λA' H9 Z9 x1 x2 x3 x4 x5=>ea rfl (iteF ?_)⟩);obtain ⟨W9,kp⟩:=W8.step Z9 x2 x4 x5;exact ⟨_,A',B,rfl,W9,x1.trans eA,eB,kp y (by simp) _ ak,kp Lc (by simp) _ aW,by omega,b1,by omega,by omega⟩
     ·refine ixL (v := .ref B.sc) (SqL.of ak) (by rw [rr,eB];rfl) (ea rfl ⟨B,_,rfl,W8.b,b1,by omega,λB' H9 Z9 x1 x2 x3 x4 x5=>ea rfl (iteF ?_)⟩);obtain ⟨W9,kp⟩:=W8.symm.step Z9 x2 x4 x5;exact ⟨_,A,B',rfl,W9.symm,eA,x1.trans eB,kp y (by simp) _ ak,kp Lc (by simp) _ aW,a1,by omega,by omega,by omega⟩
    ·rintro u C ⟨v3,A,B,rfl,W,eA,eB,aD,bd,a1,b1,a2,b2⟩;rw [yab] at a2 b2;exact hN _ _ ⟨v3,A,B,rfl,⟨W.a,W.b,W.dj,λx g=>W.ka x (by rw [yai.mp g];simp),λx g=>W.kb x (by rw [yai.mp g];simp),λx g=>W.kx x (by rw [yai.mp g];simp)⟩,eA,eB,aD,a1,b1,by omega,by omega⟩
  ·intro N hN;refine ea rfl ⟨y,rfl,⟨_,SqL.of af⟩,?_⟩;refine za0 (K:=K) (a:=y) (xs := [.ref O.sc,.ref SB.sc]) (λi u C=>∃ v2:Option V,u = [some (.ref a),some (.ref y),v2,none,none,none,none,none,none]/\Same H3 C) ⟨none,rfl,λ_ _ e=>e⟩ (by rintro i u C _ ⟨_,_,sx⟩;exact SqL.of (sx _ _ af)) ?_ ?_
   ·rintro i x u C g ⟨v2,rfl,sx⟩;obtain ⟨S,rfl,Z3,l1⟩:∃ S:Scn,x = .ref S.sc/\SAt T.C_Makes T.C_Schema H3 S/\S.mods.length=1:=by
     match i,g with
     | 0,g=>cases g;exact ⟨O,rfl,W3.a,lA⟩
     | 1,g=>cases g;exact ⟨SB,rfl,W3.b,lB⟩
    have Z:=Z3.same sx;clear g;have L0:S.m.L=0:=by have:=Z.p.len;omega
    refine ea rfl (ixTc (v := .ref S.ml) (SqT.of Z.tup) rfl ⟨yaW _,λe he => ?_⟩);have s4:Same C (upd C e (.lst [])):=Same.new he;have e4:(upd C e (.lst [])) e=some (.lst []):=zab;generalize upd C e (.lst [])=H4 at s4 e4 ⊢;have Z4:=Z.same s4;refine ⟨S.ml,e,_,rfl,rfl,SqL.of Z4.hml,SqL.of e4,ea rfl (ite2 (λz => ?_) (λ_ => ?_))⟩
    ·exfalso;have z':(S.mods.map λd=>V.ref d.a).isEmpty=true:=z;rw [List.isEmpty_iff,List.map_eq_nil_iff] at z';rw [z'] at l1;cases l1
    refine ea rfl (ixTc (v := .ref S.mo) (SqT.of Z4.tup) rfl ⟨S.mo,_,_,rfl,Z4.c.M.ms.obj,by kernel_rfl,S.mo,S.m,rfl,Z4.c.M.ms,rfl,ea rfl (ite2 (λz => ?_) (λ_ => ?_))⟩)
    ·exfalso;rw [L0] at z;simp at z
    have bO:atI (S.mods.map λd=>V.ref d.a) 0=some (.ref (S.mods[0]'(by omega)).a):=zdE (j:=0) (by rw [yaf,yaa (by omega)];rfl);refine ea rfl (ixTc (v := .ref S.mo) (SqT.of Z4.tup) rfl (ea rfl (ixTc (v := .ref S.tt) (SqT.of Z4.tup) rfl (ea rfl (ixTc (v := .ref S.ml) (SqT.of Z4.tup) rfl (ixLc (SqL.of Z4.hml) bO ⟨S.mo,S.tt,0,S.mods[0]'(by omega),S.m,S.tabs,S.ords,rfl,Z4.c.mdt Z4.p (j:=0) (by omega),λH5 s5=>ea rfl (iteF ?_)⟩))))));exact ⟨_,rfl,(sx.trans s4).trans s5⟩
   ·rintro u C ⟨v2,rfl,sx⟩;exact hN _ _ ⟨v2,rfl,sx⟩
theorem fin {l:PySem.W.OpenLaw} {w:yaS} {K:PySem.W.Frag} {mg:Str->Option yae} {b:Addr} (T:Txt K mg) (a:mg "law" = some (.ref b)):∃ fd:FuncData,(∀ (s:yag) (v:yae),BindsTo s fd ⟨[v],[]⟩ [("_law_script",v)])/\∀ base:Heap,K.In base->base.Ns yaV mg->FnOk l.prog w K mg base CX0 10 b fd ["_law_script"] (zgo K):=by
 cases a.symm.trans T.law.gl;refine ⟨T.law.fd,λs v => ?_,λbase _ _=>ok_law T⟩;obtain ⟨_,_,_,_,_,_,_,_,_,e,_⟩:=T.law.fn.ex;rw [e];exact .of_eq rfl
theorem all_mk {l:PySem.W.OpenLaw} {w:yaS} {K:PySem.W.Frag} {h:Heap} {mg:Str->Option yae} {fa:Addr} (X:K.In h) (G:h.Ns yaV mg) (aB:mg "law" = some (.ref fa))
  {f0 f1 f2 f3 f4 f5 f6 Q f8 f9 aL al aD bp bn aE bz am aC a9 br a6 aN av a2 q a4 bv aZ a3 aR bi au bm Z aI a0 aM R a5 bE bq U be bc Y ay aU:Addr}
  {r:Addr} {z:Obj} {A:Nat} {aa aJ:Option Addr} {V:Array (Option yae)} {ai ad aY a1 J aH:yae}
  {j:Addr} {p:Obj} {u:Nat} {N B:Option Addr} {F:Array (Option yae)} {I H L D y C:yae}
  {C_Schema C_Makes:Addr}
  {D_KINDS:Addr} {b:Obj} {a:Array yae} {d:Nat}
  {f:Tok}
  {i:Tok}
  {c:Tok}
  {t:Tok}
  (aC_Schema:ybd K yaV "Schema" = some (some (.ref C_Schema)))
  (g:Cls K C_Schema)
  (mk_Schema:ye9 K C_Schema=true)
  (kc_Schema:ycd K (.ref C_Schema)=true)
  (n_Schema_tables:ya5 K (.ref C_Schema) "tables" = some none)
  (n_Schema_orders:ya5 K (.ref C_Schema) "orders" = some none)
  (n_Schema_columns:ya5 K (.ref C_Schema) "columns" = some none)
  (o:ybd K yaV "Makes" = some (some (.ref C_Makes)))
  (m:Cls K C_Makes)
  (k:ye9 K C_Makes=true)
  (n:ycd K (.ref C_Makes)=true)
  (n_Makes_schema:ya5 K (.ref C_Makes) "schema" = some none)
  (n_Makes_last:ya5 K (.ref C_Makes) "last" = some none)
  (n_Makes_still_told:ya5 K (.ref C_Makes) "still_told" = some none)
  (n_Makes_stretches:ya5 K (.ref C_Makes) "stretches" = some none)
  (n_Makes_last_written:ya5 K (.ref C_Makes) "last_written" = some none)
  (d0:Gf K "is_whole" zdL f0)
  (d1:Gf K "has_only" zdF f1)
  (d2:Gf K "is_name" zet f2)
  (d3:Gf K "is_value" zdw f3)
  (d4:Gf K "lies_in" ze3 f4)
  (d5:Gf K "row_then" zdN f5)
  (d6:Gf K "order_of_rows" zbK f6)
  (a7:ya5 K (.ref C_Makes) "__init__" = some (some (.ref Q)))
  (i7:yeN K (.ref Q)=true)
  (l7:K.lookup Q=some ⟨ai,aa,.func (ycw "__init__" "Makes.__init__" (zch zaN) (zbF zaN) (zaj zaN) (.ref r) ad aY a1 aJ J aH),V⟩)
  (bA:K.lookup r=some z)
  (aF:z.data = .seq #[.none] A)
  (c7:ydR K J "Makes.__init__" = true)
  (k7:ycd K (.ref Q)=true)
  (d8:Mf K C_Makes "write" "Makes.write" zci f8)
  (d9:Mf K C_Makes "need_make" "Makes.need_make" zbn f9)
  (a8:Mf K C_Makes "need_table" "Makes.need_table" zbi aL)
  (aO:Mf K C_Makes "last_make" "Makes.last_make" zbl al)
  (bg:Mf K C_Makes "add_make" "Makes.add_make" zbv aD)
  (ag:Mf K C_Makes "row_at" "Makes.row_at" zbV bp)
  (ao:Mf K C_Makes "rows_at" "Makes.rows_at" zbD bn)
  (ba:Mf K C_Makes "order_at" "Makes.order_at" zbw aE)
  (af:Gf K "few_of" zf6 bz)
  (aQ:Gf K "pair_of" zeX am)
  (bb:Gf K "need_name" zc4 aC)
  (bu:Gf K "need_unlike" zb9 a9)
  (az:Gf K "column_from" zb6 br)
  (ae:Gf K "table_from" zcr a6)
  (bh:Gf K "tables_from" zcg aN)
  (aA:Gf K "order_from" zcz av)
  (aq:Gf K "orders_from" zcj a2)
  (a25:ya5 K (.ref C_Schema) "__init__" = some (some (.ref q)))
  (O:yeN K (.ref q)=true)
  (l25:K.lookup q=some ⟨I,N,.func (ycw "__init__" "Schema.__init__" (zch zaJ) (zbF zaJ) (zaj zaJ) (.ref j) H L D B y C),F⟩)
  (M:K.lookup j=some p)
  (E:p.data = .seq #[.none] u)
  (c25:ydR K y "Schema.__init__" = true)
  (k25:ycd K (.ref q)=true)
  (bj:Mf K C_Schema "table_names" "Schema.table_names" za2 a4)
  (bD:Mf K C_Schema "columns_of" "Schema.columns_of" za6 bv)
  (an:Mf K C_Schema "has_order" "Schema.has_order" zbh aZ)
  (aG:Mf K C_Schema "is_key" "Schema.is_key" zbC a3)
  (ar:Mf K C_Schema "told" "Schema.told" zcb aR)
  (as:Gf K "_law_cell_at" zbU bi)
  (bF:Gf K "_law_stream" zb7 au)
  (bC:Gf K "_law_names" zcp bm)
  (aW:Gf K "_law_schema" zcc Z)
  (ah:Gf K "_law_value" zcw aI)
  (bt:Gf K "_law_row" zdO a0)
  (aS:Gf K "_law_first" zcu aM)
  (bd:Gf K "_law_handed" zck R)
  (bo:Gf K "_law_writes" zca a5)
  (bB:Gf K "_law_behind" zb8 bE)
  (S:Gf K "_law_ordered" zbX bq)
  (ab:Gf K "_law_table_right" zba U)
  (aV:Gf K "_law_make_right" zbm be)
  (aj:Gf K "_law_no_row" zb5 bc)
  (ac:Gf K "_law_begun" zcx Y)
  (ak:Gf K "_law_step" zcY ay)
  (bf:Gf K "law" s_law aU)
  (z_all:ybd K yaV "all" = some none)
  (z_bool:ybd K yaV "bool" = some none)
  (z_dict:ybd K yaV "dict" = some none)
  (z_enumerate:ybd K yaV "enumerate" = some none)
  (z_int:ybd K yaV "int" = some none)
  (z_isinstance:ybd K yaV "isinstance" = some none)
  (z_len:ybd K yaV "len" = some none)
  (z_list:ybd K yaV "list" = some none)
  (z_range:ybd K yaV "range" = some none)
  (e:ybd K yaV "reversed" = some none)
  (z_set:ybd K yaV "set" = some none)
  (z_sorted:ybd K yaV "sorted" = some none)
  (z_str:ybd K yaV "str" = some none)
  (z_tuple:ybd K yaV "tuple" = some none)
  (z_zip:ybd K yaV "zip" = some none)
  (g_GREATEST:ybd K yaV "GREATEST" = some (some (.int 1000000000 f)))
  (g_LETTERS:ybd K yaV "LETTERS" = some (some (.str "abcdefghijklmnopqrstuvwxyz" i)))
  (g_LONGEST_NAME:ybd K yaV "LONGEST_NAME" = some (some (.int 8 c)))
  (g_MOST:ybd K yaV "MOST" = some (some (.int 4 t)))
  (nT_KINDS:ybd K yaV "KINDS" = some (some (.ref D_KINDS)))
  (lT_KINDS:K.lookup D_KINDS=some b)
  (xT_KINDS:b.cls = .type "tuple")
  (tT_KINDS:b.data = .seq a d)
  (zT_KINDS:a.size<=100000)
  (kT_KINDS:Vals [.str "number",.str "word"] a.toList) :
  ∃ fd:FuncData,(∀ (s:yag) (v:yae),BindsTo s fd ⟨[v],[]⟩ [("_law_script",v)])/\∀ base:Heap,K.In base->base.Ns yaV mg->FnOk l.prog w K mg base CX0 10 fa fd ["_law_script"] (zgo K):=by
 have F7:FunD K "__init__" "Makes.__init__" zaN Q (.ref r) _:=⟨⟨_,_,_,_,_,_,_,_,_,rfl,l7,c7⟩,k7⟩;have ap:FunD K "__init__" "Schema.__init__" zaJ q (.ref j) _:=⟨⟨_,_,_,_,_,_,_,_,_,rfl,l25,c25⟩,k25⟩;exact fin { C_Schema:=C_Schema,c_Schema:=yde X G aC_Schema,l_Schema:=g,n_Schema_tables:=n_Schema_tables,n_Schema_orders:=n_Schema_orders,n_Schema_columns:=n_Schema_columns,k_Schema:=⟨mk_Schema,a25,O,kc_Schema⟩,C_Makes:=C_Makes,c_Makes:=yde X G o,l_Makes:=m,n_Makes_schema:=n_Makes_schema,n_Makes_last:=n_Makes_last,n_Makes_still_told:=n_Makes_still_told,n_Makes_stretches:=n_Makes_stretches,n_Makes_last_written:=n_Makes_last_written,k_Makes:=⟨k,a7,i7,n⟩,D_KINDS:=D_KINDS,c_KINDS:=yde X G nT_KINDS,t_KINDS:=⟨b,a,d,lT_KINDS,xT_KINDS,tT_KINDS,zah zT_KINDS,kT_KINDS⟩,is_whole:=d0.fx X G (λ_ _ _ _ _ _=>bs λ_=>b0 rfl),has_only:=d1.fx X G (λ_ _ _ _ _ _=>bs λ_=>bs λ_=>b0 rfl),is_name:=d2.fx X G (λ_ _ _ _ _ _=>bs λ_=>b0 rfl),is_value:=d3.fx X G (λ_ _ _ _ _ _=>bs λ_=>bs λ_=>b0 rfl),lies_in:=d4.fx X G (λ_ _ _ _ _ _=>bs λ_=>bs λ_=>b0 rfl),row_then:=d5.fx X G (λ_ _ _ _ _ _=>bs λ_=>bs λ_=>b0 rfl),order_of_rows:=d6.fx X G (λ_ _ _ _ _ _=>bs λ_=>bs λ_=>bs λ_=>bs λ_=>b0 rfl),Makes___init__:=⟨_,_,r,z,A,F7,bA,aF,⟨a7,i7,k7⟩⟩,Makes_write:=d8.mx (λ_ _ _ _ _ _=>bs λ_=>bs λ_=>bs λ_=>bs λ_=>b0 rfl),Makes_need_make:=d9.mx (λ_ _ _ _ _ _=>bs λ_=>bs λ_=>b0 rfl),Makes_need_table:=a8.mx (λ_ _ _ _ _ _=>bs λ_=>bs λ_=>bs λ_=>b0 rfl),Makes_last_make:=aO.mx (λ_ _ _ _ _ _=>bs λ_=>b0 rfl),Makes_add_make:=bg.mx (λ_ _ _ _ _ _=>bs λ_=>bs λ_=>b0 rfl),Makes_row_at:=ag.mx (λ_ _ _ _ _ _=>bs λ_=>bs λ_=>bs λ_=>bs λ_=>b0 rfl),Makes_rows_at:=ao.mx (λ_ _ _ _ _ _=>bs λ_=>bs λ_=>bs λ_=>b0 rfl),Makes_order_at:=ba.mx (λ_ _ _ _ _ _=>bs λ_=>bs λ_=>bs λ_=>bs λ_=>b0 rfl),few_of:=af.fx X G (λ_ _ _ _ _ _=>bs λ_=>bs λ_=>b0 rfl),pair_of:=aQ.fx X G (λ_ _ _ _ _ _=>bs λ_=>b0 rfl),need_name:=bb.fx X G (λ_ _ _ _ _ _=>bs λ_=>b0 rfl),need_unlike:=bu.fx X G (λ_ _ _ _ _ _=>bs λ_=>b0 rfl),column_from:=az.fx X G (λ_ _ _ _ _ _=>bs λ_=>b0 rfl),table_from:=ae.fx X G (λ_ _ _ _ _ _=>bs λ_=>b0 rfl),tables_from:=bh.fx X G (λ_ _ _ _ _ _=>bs λ_=>b0 rfl),order_from:=aA.fx X G (λ_ _ _ _ _ _=>bs λ_=>bs λ_=>b0 rfl),orders_from:=aq.fx X G (λ_ _ _ _ _ _=>bs λ_=>bs λ_=>b0 rfl),Schema___init__:=⟨_,_,j,p,u,ap,M,E,⟨a25,O,k25⟩⟩,Schema_table_names:=bj.mx (λ_ _ _ _ _ _=>bs λ_=>b0 rfl),Schema_columns_of:=bD.mx (λ_ _ _ _ _ _=>bs λ_=>bs λ_=>b0 rfl),Schema_has_order:=an.mx (λ_ _ _ _ _ _=>bs λ_=>bs λ_=>bs λ_=>b0 rfl),Schema_is_key:=aG.mx (λ_ _ _ _ _ _=>bs λ_=>bs λ_=>bs λ_=>b0 rfl),Schema_told:=ar.mx (λ_ _ _ _ _ _=>bs λ_=>b0 rfl),_law_cell_at:=as.fx X G (λ_ _ _ _ _ _=>bs λ_=>bs λ_=>b0 rfl),_law_stream:=bF.fx X G (λ_ _ _ _ _ _=>bs λ_=>bs λ_=>b0 rfl),_law_names:=bC.fx X G (λ_ _ _ _ _ _=>bs λ_=>bs λ_=>b0 rfl),_law_schema:=aW.fx X G (λ_ _ _ _ _ _=>bs λ_=>b0 rfl),_law_value:=ah.fx X G (λ_ _ _ _ _ _=>bs λ_=>bs λ_=>b0 rfl),_law_row:=bt.fx X G (λ_ _ _ _ _ _=>bs λ_=>bs λ_=>b0 rfl),_law_first:=aS.fx X G (λ_ _ _ _ _ _=>bs λ_=>bs λ_=>b0 rfl),_law_handed:=bd.fx X G (λ_ _ _ _ _ _=>bs λ_=>b0 rfl),_law_writes:=bo.fx X G (λ_ _ _ _ _ _=>bs λ_=>bs λ_=>bs λ_=>b0 rfl),_law_behind:=bB.fx X G (λ_ _ _ _ _ _=>bs λ_=>bs λ_=>b0 rfl),_law_ordered:=S.fx X G (λ_ _ _ _ _ _=>bs λ_=>bs λ_=>b0 rfl),_law_table_right:=ab.fx X G (λ_ _ _ _ _ _=>bs λ_=>bs λ_=>bs λ_=>bs λ_=>bs λ_=>b0 rfl),_law_make_right:=aV.fx X G (λ_ _ _ _ _ _=>bs λ_=>bs λ_=>bs λ_=>bs λ_=>b0 rfl),_law_no_row:=aj.fx X G (λ_ _ _ _ _ _=>bs λ_=>bs λ_=>bs λ_=>bs λ_=>b0 rfl),_law_begun:=ac.fx X G (λ_ _ _ _ _ _=>bs λ_=>bs λ_=>b0 rfl),_law_step:=ak.fx X G (λ_ _ _ _ _ _=>bs λ_=>bs λ_=>b0 rfl),law:=bf.fx X G (λ_ _ _ _ _ _=>bs λ_=>b0 rfl),b_all:=ya7 X G z_all,b_bool:=ya7 X G z_bool,b_dict:=ya7 X G z_dict,b_enumerate:=ya7 X G z_enumerate,b_int:=ya7 X G z_int,b_isinstance:=ya7 X G z_isinstance,b_len:=ya7 X G z_len,b_list:=ya7 X G z_list,b_range:=ya7 X G z_range,b_reversed:=ya7 X G e,b_set:=ya7 X G z_set,b_sorted:=ya7 X G z_sorted,b_str:=ya7 X G z_str,b_tuple:=ya7 X G z_tuple,b_zip:=ya7 X G z_zip,u_GREATEST:=_,c_GREATEST:=yde X G g_GREATEST,r_GREATEST:=⟨_,rfl⟩,u_LETTERS:=_,c_LETTERS:=yde X G g_LETTERS,r_LETTERS:=⟨_,rfl⟩,u_LONGEST_NAME:=_,c_LONGEST_NAME:=yde X G g_LONGEST_NAME,r_LONGEST_NAME:=⟨_,rfl⟩,u_MOST:=_,c_MOST:=yde X G g_MOST,r_MOST:=⟨_,rfl⟩ } aB
theorem walk {l:PySem.W.OpenLaw} {q:yas} {b:List Str} {r:(Str->Option yae)->Heap->Prop} {i:yaS->Heap->Prop} {d:DefRec} {K:Params->PySem.W.Frag} (p:l.most=some 63) (c:d.params.defaults = [])
  (m:∀ (w:yaS) (h:Heap),i w h->(K w.params).In h)
  (F:∀ (w:yaS) (mg:Str->Option yae) (g:Addr) (h:Heap),(K w.params).In h->h.Ns yaV mg->mg d.name=some (.ref g) ->
   ∃ e:FuncData,(∀ (s:yag) (u:yae),BindsTo s e ⟨[u],[]⟩ [("_law_script",u)])/\∀ base:Heap,(K w.params).In base->base.Ns yaV mg->FnOk l.prog w (K w.params) mg base CX0 10 g e ["_law_script"] (zgo (K w.params))) :
  PySem.W.WalkO q b r i l.row.toRowW d [] (λf vs=>PySem.call f vs) :=
 L2.walk_of (n:=63) (k:=10) (x := "_law_script") (CX:=λ_=>CX0) (sp:=λw=>zgo (K w.params)) p (by decide) c ⟨rfl,by decide,by decide,rfl⟩ m F (λ_ _ a ns o _ j=>⟨a,ns,rfl,j,o,λ_=>rfl⟩) λ_ _ _ _ _ z=>z
end K06
end
open PySem PySem.W PyProof.Rows
set_option maxRecDepth 100000 in
set_option maxHeartbeats 0 in
theorem PySem.Challenge.cw_planstore_k06_makes_told_holds : PySem.Challenge.rw_planstore_k06_makes_told.Holds := by
 w_on;o_law;k_head;(case hw=>w_witness2)
 k_fill
 refine K06.walk (l:=PySem.Challenge.rw_planstore_k06_makes_told) rfl rfl (λw h Y=>PySem.W.kIn_of Y) ?F
 case F =>
  intro w mg fa h KX G hmg
  refine' K06.all_mk KX G hmg _ _ _ _ _ _ _ _ _ _ _ _ _ _ _ _ _ _ _ _ _ _ _ _ _ _ ?ld7 ?dd7 _ _ _ _ _ _ _ _ _ _ _ _ _ _ _ _ _ _ _ _ _ _ ?ld25 ?dd25 _ _ _ _ _ _ _ _ _ _ _ _ _ _ _ _ _ _ _ _ _ _ _ _ _ _ _ _ _ _ _ _ _ _ _ _ _ _ _ _ _ _ _ _ ?lT_KINDS ?xT_KINDS ?tT_KINDS ?zT_KINDS ?kT_KINDS
  all_goals first | k_is | exact ⟨by k_is,_,L2.fun_mk (by k_is) (by k_is) (by k_is)⟩ | exact ⟨by k_is,by k_is,_,L2.fun_mk (by k_is) (by k_is) (by k_is)⟩ | exact ⟨by k_is,by k_is,by k_is,by k_is⟩ | skip
  try (case ld7=>(first | k_is | exact rfl))
  try (case dd7=>exact rfl)
  try (case ld25=>(first | k_is | exact rfl))
  try (case dd25=>exact rfl)
  try (case lT_KINDS=>(first | k_is | exact rfl))
  try (case xT_KINDS=>(first | exact rfl | decide))
  try (case tT_KINDS=>(first | exact rfl | decide))
  try (case zT_KINDS=>(first | exact rfl | decide))
  try (case kT_KINDS=>exact (.cons ⟨_,rfl⟩ (.cons ⟨_,rfl⟩ .nil)))
#print axioms PySem.Challenge.cw_planstore_k06_makes_told_holds
