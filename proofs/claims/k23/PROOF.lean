import PyProof.Rows.All
import Wide.All
import OpenK.AllK
import Wide.FinOn
import Lean
import PyProof.EqAt
import PyProof.EqKinds
import PyProof.TupleCall
import KE.KIntText
import PyProof.NeKinds
import KE.KDictList
import PyProof.Rows.SetFrom
import PyProof.WalksMore
import PyProof.AttrMissHeap
import PyProof.EnumFor
import PyProof.EnumMake
import PyProof.EnumStmt
import PyProof.LayNew
import PyProof.ZipIter
import PyProof.Draws
import PyProof.Rows.StrNews
import PyProof.ReprRoads
import PyProof.ReprLen
import PyProof.StrLawsRepr
import PyProof.StrLawsTight
import PyProof.StrLawsChain
import PyProof.Rows.StrSplitAre
import PyProof.Rows.Range3
import PyProof.ListTruth
import PyProof.WalkInts
import PyProof.Rows.StrPartPair
import PyProof.Rows.StrJoin2
import PyProof.Rows.StrNews2
import PyProof.Rows.StrLawsPart
import PyProof.Rows.StrFirst
import PyProof.Rows.SortWalk
import PyProof.Rows.SortStr
import PyProof.CollectWalk
import PyProof.DictIter
import PyProof.SetKind
import PyProof.SetRoads
import PyProof.DictWalks
import PyProof.ForAny
import PyProof.MakeMany
import PyProof.FactsAll.set
import PyProof.FString5
import PyProof.FactsAll.dict
import PyProof.Rows.SortShellK
import PySem.Challenge.RW_planstore_k23_pages_as_texts
def PySem.W.Fast.tw11456892682110464732:Nat:=0
def PySem.W.Fast.tw1152516733057184893:Nat:=0
def PySem.W.Fast.tw12312076608984589847:Nat:=0
def PySem.W.Fast.tw1380393949491141577:Nat:=0
def PySem.W.Fast.tw16262380883774686441:Nat:=0
def PySem.W.Fast.tw16480212919465528249:Nat:=0
def PySem.W.Fast.tw16815243020790517437:Nat:=0
def PySem.W.Fast.tw17379744870001513784:Nat:=0
def PySem.W.Fast.tw17783081731521549809:Nat:=0
def PySem.W.Fast.tw1808106440516203956:Nat:=0
def PySem.W.Fast.tw2000437015172406648:Nat:=0
def PySem.W.Fast.tw2194521032687941153:Nat:=0
def PySem.W.Fast.tw2544626721088205624:Nat:=0
def PySem.W.Fast.tw4092278332490217878:Nat:=0
def PySem.W.Fast.tw4737182053847465884:Nat:=0
def PySem.W.Fast.tw4784229776368793796:Nat:=0
def PySem.W.Fast.tw5353668057930823434:Nat:=0
def PySem.W.Fast.tw595065866765528978:Nat:=0
def PySem.W.Fast.tw8546415289174301743:Nat:=0
def PySem.W.Fast.tw8767812554527009012:Nat:=0
def PySem.W.Fast.tw8878142392604392747:Nat:=0
def PySem.W.Fast.tw11245879246918261702:Nat:=0
open List renaming length_map → yaa, getElem?_eq_getElem → yab, getElem?_map → yae, map_append → yah, length_take → yaj, length_cons → yal, getElem_mem → yam, map_cons → yan, length_append → yao, mem_cons_of_mem → yap, mem_cons_self → yat, take_of_length_le → yaA, take_succ_eq_append_getElem → yaB, mem_map → yaG, size_toArray → yaH, mem_cons → yaN, all_eq_true → yaP, length_drop → yaX, mem_singleton → ya4, length_nil → ya5, take_length → yba, map_map → ybb, take_succ → ybc, getD_eq_getElem?_getD → ybf, getElem?_eq_some_iff → ybj, lookup_cons → ybm, mem_append → ybn, mem_append_right → ybp, pairwise_map → ybv, getElem?_append_right → ybJ, getElem?_eq_none → ybT, getElem_of_mem → ybU, nodup_cons → yb5, sum_cons → yb9, append_assoc → ych, length_zip → ycl, mem_of_getElem? → ycm, all_map → ycw, range → ycz, length → ycL, any_cons → ycS, cons → ycT, append_nil → ycZ, getElem_inj → ydd, any_eq_true → yde, getElem_map → ydf, not_mem_nil → ydg, length_singleton → ydl, find?_cons → ydm, nodup_append → ydx, mem_append_left → ydA, getElem?_append_left → ydC, mem_take_iff_getElem → ydG, getElem_zip → ydO, forIn_cons → ydZ, getElem?_drop → yd0, findIdx?_eq_some_iff_getElem → yd3, map_drop → yd5, filter_append → yd7, map_take → yd8, lookup → yec, mem_range → yek, mapM_cons → yeq, length_replicate → yet, map_nil → yeu, filter_cons → yeC, mem_of_mem_drop → yeF, mem_of_mem_take → yeG, all_cons → yeI, dropLast_concat_getLast → yeM, filterMap_cons → yeQ, of_mem_zip → yeU, length_set → yeV, range_succ → ye5, filter_nil → ye6, map_congr_left → ye7, forIn_nil → yfq, nodup_nil → yfv, drop_zero → yfw, take_sublist → yfB, ext_getElem? → yfP, length_range → yfW
open PySem renaming wpAny_bind → yac, wpAny_pure → yaf, mainGlobals → yar, sizeLine → yaW, starEach → ya6, wpAny_holding → ya9, wpAny_setState_of → ybl, compareOp → ybo, wpAny_call_entry → ybq, wpAny_newObj_type → ybu, bootBuiltins → ybw, codeAny_builtin → ybx, strKind → yby, wpAny_setField_rec → ybH, intKind → ybM, wpAny_truthy_bool → ybN, wpAny_callSpecial?_slot → ybX, scanBound → ybZ, tupleKeyHash → yb0, wpAny_mono → ycb, plainId_quiet → yck, wpAny_askSetting → ycn, wpAny_rule → ycr, wpAny_seqItems → yct, codeAny_mono → ycE, wpAny_pyIter_list → ycI, wpAny_setEntries_of → ycM, wpAny_typeOf → ycR, wpAny_field → ycW, behindInMarks → yc9, mem_of_lookup → yda, wpAny_getItem_str_slice → ydb, wpAny_ite_split → ydn, attributeBase → ydt, wpAny_storeSet_of → ydu, wpAny_attempt → ydw, codeAny → ydB, relayAll → ydN, sysModules → ydQ, wpAny_passesOwn → ydW, wpAny_Call_Name_kw → ydX, wpAny_newList → yd1, assignEach → yea, sliceBounds → yef, call_meets → yeg, fits_of_scanBound → yeh, wpAny_runValue → yem, isSubtype_type → yen, backTo → yer, setAddHashed → yew, builtinLookup_eq_fast → yex, binaryOp → yeH, setSearchFrom → yeK, wpAny_load → yeN, setsByText → yeO, letOwnedTupleGo → yeR, keywordEach → yeT, post_val_or_str → yeW, wpAny_updateSeq → ye2, pyNext → yfb, wpAny_pyIter_tuple → yfc, tupleKind_room_in1 → yff, setNext → yfs, wpAny_fieldsOf → yft, typeIs_str → yfC, putSet_of → yfF, pickOrder → yfK
open PySem.Heap renaming get?_push_of_some → yad, get?_push_size → yai, lt_size → yak, size_push → ybd, get?_update_other → ybP, get?_update_self → ybS
open Nat renaming le_refl → yag, ne_of_lt → yaF, lt_of_lt_of_le → yaT, le_trans → ya1, zero_le → ya2, lt_succ_self → ybh, le_of_lt → ybs, lt_or_ge → ybC, ne_of_gt → ycc, lt_succ_of_lt → ycg, not_lt_zero → ycj, le_succ → ycA, lt_of_succ_lt_succ → ycN, lt_irrefl → ycQ, lt_of_le_of_lt → ydi, le_of_not_lt → ydL, eq_zero_or_pos → yd4, succ → yel, not_lt → yeP, isDigit_of_mem_toDigits → ye3
open Option.some renaming inj → yas
open PySem.W renaming nsIn → yav, keepIn → yay, mg_of → yaC, codeIn → yaE, fnOf → yaI, mg_none_of → ybg, findIn → ybt, kitOne → ybA, kia_one → yb4, kia_tup → yb7, emptyDict → yce, instObj → ycJ, plainGet → ydK, hasDictIn → yeb, kitx_list → yed, kitx_dict → yee, isFn → yes, plainGet_of → yeS, callWith_K → yfd, lookIn → yfn, methodObj → yfy, plainOver → yfA
open PySem.Paired renaming length → yaz
open PySem.Value renaming ref → yaD, type → ybQ, none → ycy, int → ycY, bool → yds, str → ydV
open Bool renaming false_ne_true → yaK, and_eq_true → yaL, false_eq_true → ya0, eq_iff_iff → yb3, not_eq_true' → ycs, false_and → ycD, true_and → ydv, not_true → yeJ, and_false → yfo
open Option renaming some → yaM
open Array renaming length_toList → yaO, getElem?_toList → ybI, getElem?_eq_getElem → yb6, mem_toList_iff → yeD, perm_iff_toList_perm → yfa, toList_push → yfJ
open PySem.F renaming plainAttrs_str → yaQ, plainAttrs_list → ya8, slot_list_append → ybE, type_list_append → ybF, slot_str_join → ybV, type_str_join → ybW, slot_str_split → yb1, type_str_split → yb2, plain_extend_loop → ycX, plain_list_iadd → yc6, slot_str_startswith → ydo, type_str_startswith → ydp, sub_list_frozenset → ydz, slot_tuple_getattribute → ydH, slot_list_extend → ydT, type_list_extend → ydU, entry_proto_collect → yey, plain_proto_collect → yez, sub_list_set → yeE, slot_zip_next → yeY, slot_set_iter → ye0, args_str_split_2 → yfi
open Or renaming inl → yaR
open Int renaming emod_lt_of_pos → yaU, emod_nonneg → ya7, toNat_natCast → ybO, natAbs_natCast → yfm
open PySem.Txt renaming split → yaV, slice → ya3, join → ybG, slice_le → ycF, endswith → ycG
open PySem.NumText renaming digitsVal → yaY
open PySem.SetTable renaming below → yaZ, grown → ybB, insertAt → yc4, probe → ydh, has → yev, runEnd → yeX
open PySem.NameKind renaming free → ybe
open PySem.Around renaming under_plainId → ybi
open PySem.Builtin.List renaming listExtendWith → ybD, listSameRef → yc8, listTooLong → ydR, listItems → yd9
open PySem.Builtin.Str renaming occurrences → ybK, strSliceIndices → ydr, strKind → ydP, partsBetween → ydS, strSub → yd6
open PyProof.Rows renaming wpS_bind → ybL, wpS_pure → ycv, callWith_type1 → ycK, slot_tuple_getitem → yc0, seqObj → ydj, entry_list_sort → yd2, slot_list_sort → yeo, args_list_sort → yep, wpS_forRange → yeA, pairsOf_size → yeB, signs_ofString → ye4, kindOf → yfe, plain_sorted → yfj, entry_sorted → yfk, args_sorted1 → yfl
open List.cons renaming inj → ybY
open PySem.PassesOwn renaming never → yb8
open PySem.Builtin.SmallTypes renaming ownedTupleIsFree → yca, nextOf → ydI, ownedTupleHandOut → ydJ
open PySem.Str renaming ofString → ycf
open Ne renaming symm → yco
open True renaming intro → ycp
open PySem.Obj renaming mapSeq → ycq, putSet → yc5
open PySem.Calls renaming call_function_entry → ycu
open PyProof.Rows.KeyOrd renaming kle_of_klt → ycx, kle_trans → ycB
open Sum renaming inr → ycC, inl → ycU
open Nat.succ renaming inj → ycH
open False renaming elim → ycO
open PySem.Builtin.Slice renaming slicePlaces → ycV, sliceAdjust → ydD
open PySem.Builtin.Tuple renaming tupleExact → yc1
open ForInStep renaming yield → yc2
open PySem.SetTable.probe renaming go → yc3
open PySem.SetTable.below renaming go → yc7
open PySem.Heap.SameBut renaming update → ydc
open PySem.StrLaws renaming glued_eq_join → ydq, sliceText → ydy
open PyProof.Rows.F renaming entry_set_update_loop → ydE, plain_set_update_loop → ydF
open PySem.SeqAt.EqAt renaming same → ydY, of_refs → yfh
open Classical renaming not_not → yej
open PySem.SeqAt.RcNeAt renaming lists → yfg
open List.Pairwise renaming map → yfS
set_option Elab.async false
set_option linter.all false
set_option maxRecDepth 100000
namespace L2
open PySem PySem.Spec PyProof.Rows
abbrev Key:=Sum Int Str
def keyIs:Key→Value→Bool
 | .inl k,v=>Value.isInt k v
 | .inr x,v=>Value.isStrOf x v
def keyH (w:World):Key→Int
 | .inl k=>hashInt k
 | .inr x=>hashStr w x
theorem zaW:∀ {k:Key} {v:Value},keyIs k v=true→(∃ i t,k=ycU i∧v=ycY i t)∨(∃ x t,k=ycC x∧v=ydV x t)
 | .inl i,v,h=>by
  obtain ⟨t,e⟩:=Value.isInt_shape (k:=i) (v:=v) h
  exact .inl ⟨i,t,rfl,e⟩
 | .inr x,v,h=>by
  obtain ⟨t,e⟩:=Value.isStrOf_shape (x:=x) (v:=v) h
  exact .inr ⟨x,t,rfl,e⟩
theorem keyIs_int (i:Int) (t:Tok):keyIs (.inl i) (.int i t)=true:=by simp [keyIs,Value.isInt]
theorem keyIs_str (x:Str) (t:Tok):keyIs (.inr x) (.str x t)=true:=by simp [keyIs,Value.isStrOf]
theorem key_ll (a b:Int):decide ((ycU a:Key)=ycU b)=(a == b):=by
 by_cases e:a=b
 ·subst e;simp
 ·have h:¬ (ycU a:Key)=ycU b:=fun q=>e (Sum.inl.inj q)
  rw [decide_eq_false h]
  exact (beq_eq_false_iff_ne.mpr e).symm
theorem key_rr (a b:Str):decide ((ycC a:Key)=ycC b)=decide (a=b):=by
 by_cases e:a=b
 ·subst e;simp
 ·have h:¬ (ycC a:Key)=ycC b:=fun q=>e (Sum.inr.inj q)
  rw [decide_eq_false h,decide_eq_false e]
theorem key_lr (a:Int) (b:Str):decide ((ycU a:Key)=ycC b)=false:=decide_eq_false (fun q=>nomatch q)
theorem key_rl (a:Str) (b:Int):decide ((ycC a:Key)=ycU b)=false:=decide_eq_false (fun q=>nomatch q)
def za5 (prog:Program) (w:World):PySem.KeyKind prog w Key where
 is:=keyIs
 hash:=keyH w
 inj:=fun v a b ha hb=>by
  rcases zaW ha with ⟨i,t,rfl,rfl⟩ | ⟨x,t,rfl,rfl⟩
  ·rcases zaW hb with ⟨j,u,rfl,e⟩ | ⟨y,u,rfl,e⟩
   ·injection e with e1 _;rw [e1]
   ·exact nomatch e
  ·rcases zaW hb with ⟨j,u,rfl,e⟩ | ⟨y,u,rfl,e⟩
   ·exact nomatch e
   ·injection e with e1 _;rw [e1]
 byValue:=fun k v h=>by
  rcases zaW h with ⟨i,t,rfl,rfl⟩ | ⟨x,t,rfl,rfl⟩ <;> rfl
 pyHash:=fun hv h=>by
  rcases zaW hv with ⟨i,t,rfl,rfl⟩ | ⟨x,t,rfl,rfl⟩
  ·exact wpAny_pyHash_int h
  ·exact wpAny_pyHash_str h
 eqBool:=fun hu hv h=>by
  rcases zaW hu with ⟨i,t,rfl,rfl⟩ | ⟨x,t,rfl,rfl⟩
  ·rcases zaW hv with ⟨j,u,rfl,rfl⟩ | ⟨y,u,rfl,rfl⟩
   ·rw [key_ll] at h;exact wpAny_eqBool_int h
   ·rw [key_lr] at h;exact SeqAt.EqAt.int_str i t y u _ _ _ _ h
  ·rcases zaW hv with ⟨j,u,rfl,rfl⟩ | ⟨y,u,rfl,rfl⟩
   ·rw [key_rl] at h;exact SeqAt.EqAt.str_int x t j u _ _ _ _ h
   ·rw [key_rr] at h;exact wpAny_eqBool_str h
 «strs»:=fun k x t v h=>by
  rcases zaW h with ⟨i,u,rfl,e⟩ | ⟨y,u,rfl,e⟩
  ·exact nomatch e
  ·injection e with e1 _
   subst e1
   cases v <;> rfl
theorem zhM (prog:Program) (w:World) (i:Int) (t:Tok):(za5 prog w).is (.inl i) (.int i t)=true:=keyIs_int i t
theorem zif (prog:Program) (w:World) (x:Str) (t:Tok):(za5 prog w).is (.inr x) (.str x t)=true:=keyIs_str x t
inductive V where
 | non | bl (b:Bool) | int (i:Int) | str (x:Str) | byt (b:Array UInt8) | flt (b:UInt64) | ref (a:Addr) | ty (n:String)
 deriving DecidableEq
def RelV:V→Value→Prop
 | .non,u=>u=ycy
 | .bl b,u=>u=yds b
 | .int i,u=>∃ t,u=ycY i t
 | .str x,u=>∃ t,u=ydV x t
 | .byt b,u=>∃ t,u=Value.bytes b t
 | .flt b,u=>∃ t,u=Value.float b t
 | .ref a,u=>u=yaD a
 | .ty n,u=>u=ybQ n
abbrev Vals:List V→List Value→Prop:=Paired RelV
theorem Vals.length {xs:List V} {us:List Value} (r:Vals xs us):xs.length=us.length:=yaz r
theorem Vals.get:∀ {xs:List V} {us:List Value} {i:Nat} {x:V},Vals xs us→xs[i]? = some x→∃ u,us[i]? = some u∧RelV x u
 | _,_,_,_,.nil,e=>by simp at e
 | _,_,0,_,.cons r _,e=>by simp at e;subst e;exact ⟨_,rfl,r⟩
 | _,_,i+1,x,.cons _ t,e=>by
  obtain ⟨u,h1,h2⟩:=Vals.get (i:=i) (x:=x) t (by simpa using e)
  exact ⟨u,by simpa using h1,h2⟩
theorem Vals.set {x:V} {u:Value} (r:RelV x u):∀ {xs:List V} {us:List Value} (i:Nat),Vals xs us→Vals (xs.set i x) (us.set i u)
 | _,_,_,.nil => .nil
 | _,_,0,.cons _ t => .cons r t
 | _,_,i+1,.cons q t => .cons q (Vals.set r i t)
theorem Vals.append:∀ {xs ys:List V} {us ws:List Value},Vals xs us→Vals ys ws→Vals (xs++ys) (us++ws)
 | _,_,_,_,.nil,s=>s
 | _,_,_,_,.cons r t,s => .cons r (Vals.append t s)
theorem Vals.take:∀ {xs:List V} {us:List Value} (n:Nat),Vals xs us→Vals (xs.take n) (us.take n)
 | _,_,0,_ => .nil
 | _,_,_+1,.nil => .nil
 | _,_,n+1,.cons r t => .cons r (Vals.take n t)
theorem Vals.drop:∀ {xs:List V} {us:List Value} (n:Nat),Vals xs us→Vals (xs.drop n) (us.drop n)
 | _,_,0,r=>r
 | _,_,_+1,.nil => .nil
 | _,_,n+1,.cons _ t=>Vals.drop n t
def RelO:Option V→Option Value→Prop
 | some v,some u=>RelV v u
 | none,none=>True
 | _,_=>False
def KV {κ:Type}:List (κ×V)→List (κ×Value)→Prop:=Paired fun (p:κ×V) (q:κ×Value)=>p.1=q.1∧RelV p.2 q.2
def kV:Key→V
 | .inl i => .int i
 | .inr x => .str x
inductive HO where
 | lst (xs:List V)
 | tup (xs:List V)
 | dK (kvs:List (Key×V)) | dT (kvs:List (List Key×V))
 | set (S:Int→Bool) (n:Nat)
 | ins (C dx:Addr) (fs:List (Str×V))
 | own (x:Addr)
 | xd (fs:List (Str×V))
 | met (f x:Addr)
 | rng (lo hi:Int)
 | frz (o:Obj) (u:HO)
 | tbl (ps:Array Value)
 | ext (φ:Heap→Prop)
abbrev Hp:=Addr→Option HO
def upd (H:Hp) (a:Addr) (o:HO):Hp:=fun b=>if b=a then some o else H b
theorem zab {H:Hp} {a:Addr} {o:HO}:upd H a o a=some o:=by unfold upd;rw [if_pos rfl]
theorem zar {H:Hp} {a b:Addr} {o:HO} (h:b≠a):upd H a o b=H b:=by unfold upd;rw [if_neg h]
theorem ne_of {H:Hp} {a b:Addr} {o u:HO} (h:H a=some o) (h':H b=some u) (d:o≠u):a≠b:=by
 intro e;subst e;rw [h] at h';exact d (yas h')
theorem za7 {H:Hp} {a b:Addr} {o:HO} (h:H a=some o) (h':H b=none):a≠b:=by
 intro e;subst e;rw [h] at h';cases h'
section
variable (P:Program) (w:World)
def ObjOk (H:Hp) (h:Heap) (a:Addr):HO→Prop
 | .lst xs=>xs.length≤yaW∧∃ (its:List Value) (n:Nat),Vals xs its∧h.get? a=some { cls := .type "list",data := .seq its.toArray n }
 | .tup xs=>xs.length≤yaW∧∃ its:List Value,Vals xs its∧IsTup h a its.toArray
 | .dK kvs=>kvs.length≤yaW∧(a == ydQ)=false∧∃ vs,KV kvs vs∧h.DictOf (za5 P w) a vs
 | .dT kvs=>kvs.length≤yaW∧(a == ydQ)=false∧∃ xs:List (List Key×Addr×Value),
   Paired (fun (p:List Key×V) (q:List Key×Addr×Value)=>p.1=q.1∧H q.2.1=some (.tup (p.1.map kV))∧RelV p.2 q.2.2) kvs xs ∧
   ∃ o es ep,h.get? a=some o∧o.ExactDict∧o.data = .dict es ep∧es.toList=xs.map (entryOfKey (tupleKind (za5 P w)))∧(xs.map (·.1)).Nodup
 | .set S n=>h.SetOf (intKind P w) a S n
 | .ins C dx fs=>H dx=some (.own a)∧fs.length≤1000∧dx≠a∧h.get? a=some (ycJ C dx) ∧
   ∃ mA,h.Ns1 dx mA∧(∀ f,RelO (fs.lookup f) (mA f))∧PySem.Within mA (fs.map (·.1))
 | .own _=>∃ o,h.get? a=some o
 | .xd fs=>∃ mA,h.Ns1 a mA∧∀ f,RelO (fs.lookup f) (mA f)
 | .rng lo hi=>∃ t u v,h.get? a=some { cls := .type "range",data := .fields #[.int lo t,.int hi u,.int 1 v] }
 | .frz o u=>h.get? a=some o∧ObjOk H h a u
 | .tbl ps=>h.get? a=some { cls := .none,data := .fields ps }
 | .met f x=>h.get? a=some (yfy (.ref f) (.ref x))
 | .ext φ=>φ h∧(∃ o,h.get? a=some o)∧∀ h1 h2:Heap,φ h1→(∀ o,h1.get? a=some o→h2.get? a=some o)→φ h2
def HOk (H:Hp) (h:Heap):Prop:=∀ a o,H a=some o→ObjOk P w H h a o
end
section
variable {P:Program} {w:World} {H H':Hp} {h h':Heap} {a:Addr} {o:HO}
theorem ObjOk.lt (x:ObjOk P w H h a o):a < h.objs.size:=by
 cases o with
 | lst xs=>obtain ⟨_,_,_,_,e⟩:=x;exact yak e
 | tup xs=>obtain ⟨_,_,_,p⟩:=x;exact p.lt
 | dK kvs=>obtain ⟨_,_,_,_,o,_,_,e,_⟩:=x;exact yak e
 | dT kvs=>obtain ⟨_,_,_,_,o,_,_,e,_⟩:=x;exact yak e
 | set S n=>obtain ⟨o,_,_,_,e,_⟩:=x;exact yak e
 | ins C dx fs=>obtain ⟨_,_,_,e,_⟩:=x;exact yak e
 | own y=>obtain ⟨_,e⟩:=x;exact yak e
 | xd fs=>obtain ⟨_,⟨_,_,_,e,_⟩,_⟩:=x;exact yak e
 | rng lo hi=>obtain ⟨_,_,_,e⟩:=x;exact yak e
 | frz ob u=>obtain ⟨e,_⟩:=x;exact yak e
 | tbl ps=>exact yak (show h.get? a=some _ from x)
 | met f y=>exact yak (show h.get? a=some _ from x)
 | ext φ=>obtain ⟨_,⟨_,e⟩,_⟩:=x;exact yak e
theorem Paired.mapP {α β:Type} {F G:α→β→Prop}:∀ {l₁:List α} {l₂:List β},Paired F l₁ l₂→(∀ a b,F a b→G a b)→Paired G l₁ l₂
 | _,_,.nil,_ => .nil
 | _,_,.cons r t,f => .cons (f _ _ r) (Paired.mapP t f)
theorem ObjOk.stay (x:ObjOk P w H h a o) (k:∀ b u,(b=a∨H b=some (.own a))→h.get? b=some u→h'.get? b=some u)
  (ho:∀ b,H b=some (.own a)→H' b=some (.own a)) (ht:∀ b xs,H b=some (.tup xs)→H' b=some (.tup xs)):ObjOk P w H' h' a o:=by
 induction o with
 | lst xs=>obtain ⟨z,its,n,r,e⟩:=x;exact ⟨z,its,n,r,k _ _ (.inl rfl) e⟩
 | tup xs=>obtain ⟨z,its,r,ob,e,c⟩:=x;exact ⟨z,its,r,ob,k _ _ (.inl rfl) e,c⟩
 | dK kvs=>obtain ⟨z,y,vs,r,ob,es,ep,e,c⟩:=x;exact ⟨z,y,vs,r,ob,es,ep,k _ _ (.inl rfl) e,c⟩
 | dT kvs =>
  obtain ⟨z,y,xs,r,ob,es,ep,e,c⟩:=x
  exact ⟨z,y,xs,Paired.mapP r fun p q z=>⟨z.1,ht _ _ z.2.1,z.2.2⟩,ob,es,ep,k _ _ (.inl rfl) e,c⟩
 | set S n=>obtain ⟨ob,es,ep,t,e,c⟩:=x;exact ⟨ob,es,ep,t,k _ _ (.inl rfl) e,c⟩
 | ins C dx fs =>
  obtain ⟨d,z,ne,e,mA,⟨od,es,ep,e2,c⟩,r⟩:=x
  exact ⟨ho _ d,z,ne,k _ _ (.inl rfl) e,mA,⟨od,es,ep,k _ _ (.inr d) e2,c⟩,r⟩
 | own y=>obtain ⟨ob,e⟩:=x;exact ⟨ob,k _ _ (.inl rfl) e⟩
 | xd fs=>obtain ⟨mA,⟨od,es,ep,e,c⟩,r⟩:=x;exact ⟨mA,⟨od,es,ep,k _ _ (.inl rfl) e,c⟩,r⟩
 | rng lo hi=>obtain ⟨t,u,v,e⟩:=x;exact ⟨t,u,v,k _ _ (.inl rfl) e⟩
 | frz ob u ih=>obtain ⟨e,q⟩:=x;exact ⟨k _ _ (.inl rfl) e,ih q⟩
 | tbl ps =>
  have e:h.get? a=some { cls := .none,data := .fields ps }:=x
  show h'.get? a=some { cls := .none,data := .fields ps }
  exact k a _ (.inl rfl) e
 | met f y =>
  have e:h.get? a=some (yfy (.ref f) (.ref y)):=x
  show h'.get? a=some (yfy (.ref f) (.ref y))
  exact k a _ (.inl rfl) e
 | ext φ=>obtain ⟨p,⟨o,e⟩,st⟩:=x;exact ⟨st _ _ p fun o q=>k _ _ (.inl rfl) q,⟨o,k _ _ (.inl rfl) e⟩,st⟩
theorem HOk.lt (x:HOk P w H h) (e:H a=some o):a < h.objs.size:=(x a o e).lt
theorem HOk.fresh (x:HOk P w H h) (e:h.objs.size≤a):H a=none:=by
 cases q:H a with
 | none=>rfl
 | some u=>exact absurd (yaT (x.lt q) e) (ycQ _)
theorem HOk.kept (x:HOk P w H h) (k:∀ b u,h.get? b=some u→h'.get? b=some u):HOk P w H h':=fun a o e =>
 (x a o e).stay (fun b u _ q=>k b u q) (fun _ q=>q) fun _ _ q=>q
theorem HOk.laid (x:HOk P w H h) (k:∀ b u,h.get? b=some u→h'.get? b=some u) (hp:h.objs.size≤a) (new:ObjOk P w (upd H a o) h' a o):HOk P w (upd H a o) h':=fun b u e=>by
 have hn:=x.fresh hp
 by_cases hb:b=a
 ·subst hb;rw [zab] at e;cases e;exact new
 ·rw [zar hb] at e
  exact (x b u e).stay (fun c v _ q=>k c v q) (fun c q=>by rw [zar (za7 q hn)];exact q) fun c xs q=>by rw [zar (za7 q hn)];exact q
end
def Rd (H:Hp) (a:Addr) (u:HO):Prop:=H a=some u∨∃ o,H a=some (.frz o u)
theorem Rd.ok {P:Program} {w:World} {H:Hp} {h:Heap} {a:Addr} {u:HO} (r:Rd H a u) (x:HOk P w H h):ObjOk P w H h a u:=by
 rcases r with r | ⟨o,r⟩
 ·exact x a u r
 ·obtain ⟨_,q⟩:=x a _ r
  exact q
def Mut:Option HO→Prop
 | some (.lst _)=>True
 | some (.dK _)=>True
 | some (.dT _)=>True
 | some (.set _ _)=>True
 | some (.ins _ _ _)=>True
 | some (.ext _)=>True
 | _=>False
section
variable {P:Program} {w:World} {H:Hp} {h h':Heap} {x e:Addr} {o':HO}
theorem HOk.write (ok:HOk P w H h) (mu:Mut (H x)) (he:e=x∨H e=some (.own x)) (k:∀ b u,b≠e→h.get? b=some u→h'.get? b=some u) (heo:∃ u,h'.get? e=some u)
  (new:ObjOk P w (upd H x o') h' x o'):HOk P w (upd H x o') h':=fun b u q=>by
 have nown:∀ c y,H c=some (.own y)→c≠x:=fun c y r z=>by subst z;rw [r] at mu;exact mu
 have ntup:∀ c xs,H c=some (.tup xs)→c≠x:=fun c xs r z=>by subst z;rw [r] at mu;exact mu
 by_cases hb:b=x
 ·subst hb;rw [zab] at q;cases q;exact new
 ·rw [zar hb] at q
  by_cases hbe:b=e
  ·have q':H b=some (.own x):=by
    rcases he with z | z
    ·exact absurd (hbe.trans z) hb
    ·rw [hbe];exact z
   rw [q] at q';cases q'
   obtain ⟨v,hv⟩:=heo
   exact ⟨v,by rw [hbe];exact hv⟩
  ·refine (ok b u q).stay (fun c v hc r=>k c v ?_ r) (fun c r=>by rw [zar (nown c b r)];exact r) fun c xs r=>by rw [zar (ntup c xs r)];exact r
   rcases hc with rfl | hc
   ·exact hbe
   ·rintro rfl
    rcases he with z | z
    ·exact nown c b hc z
    ·rw [hc] at z;cases z;exact hb rfl
end
structure Un (fs ex:List Addr) (H H':Hp) (h h':Heap):Prop where
 keep:∀ b o,h.get? b=some o→H b=none→b∉fs→b∉ex→h'.get? b=some o
 slot:∀ b o,h.get? b=some o→H b=none→b∈fs→b∉ex→∃ sl,h'.get? b=some { o with slots:=sl }
 free:∀ b o,h.get? b=some o→H b=none→b∉ex→H' b=none
 there:∀ b o,h.get? b=some o→b∉ex→∃ o',h'.get? b=some o'
 tups:∀ b xs,H b=some (.tup xs)→H' b=some (.tup xs)
 frzs:∀ b o u,H b=some (.frz o u)→H' b=some (.frz o u)
 tbls:∀ b ps,H b=some (.tbl ps)→∃ more,H' b=some (.tbl (ps++more))
section
variable {fs fs' ex ex':List Addr} {H H1 H2:Hp} {h h1 h2 h':Heap} {a x e:Addr} {o:HO}
theorem Un.any (u:Un fs ex H H1 h h1) {b:Addr} {ob:Obj} (q:h.get? b=some ob) (n:H b=none) (hx:b∉ex):∃ sl,h1.get? b=some { ob with slots:=sl }:=by
 by_cases hb:b∈fs
 ·exact u.slot b ob q n hb hx
 ·exact ⟨ob.slots,u.keep b ob q n hb hx⟩
theorem Un.kept (k:∀ b u,h.get? b=some u→h'.get? b=some u):Un fs ex H H h h' :=
 ⟨fun b ob q _ _ _=>k b ob q,fun b ob q _ _ _=>⟨ob.slots,k b ob q⟩,fun _ _ _ n _=>n,fun b ob q _=>⟨ob,k b ob q⟩,fun _ _ q=>q,fun _ _ _ q=>q,fun _ ps q=>⟨#[],by rw [q];simp⟩⟩
theorem Un.refl:Un fs ex H H h h:=Un.kept fun _ _ q=>q
theorem Un.laid (k:∀ b u,h.get? b=some u→h'.get? b=some u) (hp:h.objs.size≤a) (hn:H a=none):Un fs ex H (upd H a o) h h' where
 keep:=fun b u q _ _ _=>k b u q
 slot:=fun b u q _ _ _=>⟨u.slots,k b u q⟩
 free:=fun b u q n _=>by rw [zar (yaF (yaT (yak q) hp))];exact n
 there:=fun b u q _=>⟨u,k b u q⟩
 tups:=fun b xs q=>by rw [zar (za7 q hn)];exact q
 frzs:=fun b u xs q=>by rw [zar (za7 q hn)];exact q
 tbls:=fun b ps q=>⟨#[],by rw [zar (za7 q hn),q];simp⟩
theorem Un.write (mu:Mut (H x)) (he:e=x∨H e=some (.own x)) (k:∀ b u,b≠e→h.get? b=some u→h'.get? b=some u) (heo:∃ u,h'.get? e=some u):Un fs ex H (upd H x o) h h':=by
 have hx:∀ b,H b=none→b≠x:=fun b n z=>by subst z;rw [n] at mu;exact mu
 have hb:∀ b,H b=none→b≠e:=fun b n z=>by
  subst z
  rcases he with r | r
  ·exact hx b n r
  ·rw [n] at r;cases r
 have hm:∀ b u,H b=some u→¬ Mut (some u)→b≠x:=fun b u q nm z=>by subst z;rw [q] at mu;exact nm mu
 refine ⟨fun b u q n _ _=>k b u (hb b n) q,fun b u q n _ _=>⟨u.slots,k b u (hb b n) q⟩,fun b u q n _=>by rw [zar (hx b n)];exact n,fun b u q _ => ?_,
  fun b xs q=>by rw [zar (hm b _ q fun z=>z)];exact q,fun b u xs q=>by rw [zar (hm b _ q fun z=>z)];exact q,fun b ps q=>⟨#[],by rw [zar (hm b _ q fun z=>z),q];simp⟩⟩
 by_cases hbe:b=e
 ·subst hbe;exact heo
 ·exact ⟨u,k b u hbe q⟩
end
def trk (h:Heap) (H:Hp):List Addr:=(ycz h.objs.size).filter fun a=>(H a).isSome
def hidT (h:Heap) (H:Hp):Heap:=PySem.W.hideAll h (trk h H)
theorem hidT_size (h:Heap) (H:Hp):(hidT h H).objs.size=h.objs.size:=PySem.W.hideAll_size _ _
theorem hidT_get {h:Heap} {H:Hp} {b:Addr} {o:Obj} (e:h.get? b=some o) (n:H b=none):(hidT h H).get? b=some o :=
 PySem.W.hideAll_get _ e fun hm=>by
  have q:(H b).isSome=true:=(List.mem_filter.mp hm).2
  rw [n] at q;simp at q
theorem of_hidT {h:Heap} {H:Hp} {b:Addr} {o:Obj} (e:(hidT h H).get? b=some o):h.get? b=some o∧H b=none:=by
 have e':h.get? b=some o:=PySem.W.of_hideAll (trk h H) e
 refine ⟨e',?_⟩
 cases q:H b with
 | none=>rfl
 | some x =>
  have hm:b∈trk h H:=List.mem_filter.mpr ⟨yek.mpr (yak e'),by simp [q]⟩
  have z:(hidT h H).get? b=none:=PySem.W.hideAll_none (trk h H) hm
  rw [z] at e;cases e
structure Mod (K:PySem.W.Frag) (mg:Str→Option Value) (base:Heap):Prop where
 kin:K.In base
 glob:base.Ns yar mg
 blt:∃ mb,base.Ns builtinsNs mb∧∀ x:Str,x ≠ "__name__"→mb x=ybw x
 nolimit:base.NoLimit
structure Cx where
 prog:Program
 w:World
 K:PySem.W.Frag
 mg:Str→Option Value
 base:Heap
 A:Around
 N:List Str
 s₀:Shared
 H₀:Hp
 env:Env
 outer:List Env
 stack:List Env
 ex:List Addr
 fn:Str→Bool
 calm:Bool
 pn:List (Addr×Obj)
 xe:Value→Shared→Prop
def frs (l:List Env):List Addr:=l.filterMap (·.frame)
abbrev Cx.fs (X:Cx):List Addr:=frs X.outer
def Vis (sc:Scope) (x:Str):Prop:=sc.names.lookup x=some .local∨sc.names.lookup x=some .cell∨sc.names.lookup x=some .free
def Loc (sc:Scope) (x:Str):Prop:=sc.names.lookup x=some .local∨sc.names.lookup x=some .cell
def Look (env:Env) (h:Heap) (m:Str→Option Value) (x:Str) (u:Value):Prop :=
 (env.kindOf x=some .local∧m x=some u)∨((env.kindOf x=some .cell∨env.kindOf x=some .free)∧∃ c,env.cells.lookup x=some c∧h.IsCell c (some u))
structure Cx.Ok (X:Cx):Prop where
 mod:Mod X.K X.mg X.base
 kind:X.env.scope.kind = .function
 glob:X.env.globals=yar
 blt:X.env.builtins=builtinsNs
 above:X.s₀.heap.objs.size≤X.env.locals
 inj:∀ x y c,X.env.cells.lookup x=some c→X.env.cells.lookup y=some c→x=y
 has:∀ x,(X.env.kindOf x=some .cell∨X.env.kindOf x=some .free)→∃ c,X.env.cells.lookup x=some c
 cab:∀ x c,X.fn x=true→X.env.cells.lookup x=some c→X.s₀.heap.objs.size≤c
 hd:X.calm=true→X.A.handled=none
 frames:X.A.frames=some X.stack
 stk:X.stack=X.outer∨(X.stack=X.env :: X.outer∧X.env.frame=some X.env.locals)
 exf:∀ b∈X.ex,b≠X.env.locals∧∀ x c,X.env.cells.lookup x=some c→c≠b
 bs:∀ b o,X.base.get? b=some o→X.s₀.heap.get? b=some o∧X.H₀ b=none
 bsz:X.base.objs.size≤X.s₀.heap.objs.size
 noex:∀ b o,X.base.get? b=some o→b∉X.ex
 exfs:∀ b∈X.ex,b∉X.fs
 funs:X.s₀.heap.FunFrames X.base X.outer
 frf:∀ b∈X.fs,X.H₀ b=none
structure Inv (X:Cx) (pins:List (Addr×Obj)) (σ:List (Option V)) (H:Hp) (s:Shared):Prop where
 ok:X.Ok
 os:s.os=X.s₀.os
 bare:AllBare s.gens
 base:Un X.fs X.ex X.H₀ H X.s₀.heap s.heap
 loc:∃ m,s.heap.Ns X.env.locals m∧∀ (i:Nat) (x:Str) (v:V),X.N[i]? = some x→σ[i]? = some (some v)→Vis X.env.scope x→∃ u,RelV v u∧Look X.env s.heap m x u
 cell:∀ x c,X.env.cells.lookup x=some c→∃ v,s.heap.IsCell c v
 free:H X.env.locals=none
 freeC:∀ x c,X.env.cells.lookup x=some c→H c=none
 pin:∀ p∈X.pn++pins,s.heap.get? p.1=some p.2∧H p.1=none∧p.1≠X.env.locals∧p.1∉X.fs∧∀ v,p.2.data ≠ .cell v
 hok:HOk X.prog X.w H s.heap
 len:σ.length=X.N.length
section
variable {X:Cx} {pins:List (Addr×Obj)} {σ:List (Option V)} {H H':Hp} {s:Shared} {h':Heap}
theorem Cx.Ok.nofr (ok:X.Ok) {b:Addr} {o:Obj} (e:X.base.get? b=some o):b∉X.fs:=fun hb=>by
 have:=(ok.funs.mem hb).1
 rw [e] at this;cases this
theorem Inv.bs (I:Inv X pins σ H s):∀ b o,X.base.get? b=some o→s.heap.get? b=some o∧H b=none:=fun b o e =>
 ⟨I.base.keep b o (I.ok.bs b o e).1 (I.ok.bs b o e).2 (I.ok.nofr e) (I.ok.noex b o e),I.base.free b o (I.ok.bs b o e).1 (I.ok.bs b o e).2 (I.ok.noex b o e)⟩
theorem Inv.bk (I:Inv X pins σ H s):∀ b o,X.base.get? b=some o→s.heap.get? b=some o:=fun b o e=>(I.bs b o e).1
theorem Inv.mod (I:Inv X pins σ H s):Mod X.K X.mg X.base:=I.ok.mod
theorem Inv.kIn (I:Inv X pins σ H s):X.K.In s.heap:=I.ok.mod.kin.keeps I.bk
theorem Inv.lt (I:Inv X pins σ H s):X.env.locals < s.heap.objs.size:=let ⟨_,hn,_⟩:=I.loc;hn.lt
theorem Inv.sz (I:Inv X pins σ H s):X.s₀.heap.objs.size≤s.heap.objs.size:=ya1 I.ok.above (ybs I.lt)
theorem Inv.nofs (I:Inv X pins σ H s) {a:Addr} (h:s.heap.objs.size≤a):a∉X.fs:=fun hb=>by
 obtain ⟨_,o,ho,_⟩:=I.ok.funs.mem hb
 exact absurd (yaT (yak ho) (ya1 I.sz h)) (ycQ _)
theorem Inv.cne (I:Inv X pins σ H s):∀ x c,X.env.cells.lookup x=some c→c≠X.env.locals:=fun x c e z=>by
 obtain ⟨v,o,ho,hd⟩:=I.cell x c e
 obtain ⟨m,⟨o',es,ep,ho',hd',_⟩,_⟩:=I.loc
 rw [z,ho'] at ho;cases ho;rw [hd'] at hd;cases hd
theorem Inv.funs (I:Inv X pins σ H s):s.heap.FunFrames X.base X.outer:=by
 have all:∀ (l:List Env),(∀ b∈frs l,b∈X.fs)→X.s₀.heap.FunFrames X.base l→s.heap.FunFrames X.base l:=by
  intro l
  induction l with
  | nil=>intro _ _;trivial
  | cons env r ih =>
   intro hs hl
   obtain ⟨hk,⟨L,o,hf,hn,ho,hd⟩,hr⟩:=hl
   have hL:L∈X.fs:=hs L (by unfold frs;rw [yeQ,hf];exact yat)
   obtain ⟨sl,e⟩:=I.base.slot L o ho (I.ok.frf L hL) hL fun z=>I.ok.exfs L z hL
   exact ⟨hk,⟨L,_,hf,hn,e,hd⟩,ih (fun b hb=>hs b (by unfold frs;rw [yeQ,hf];exact yap _ hb)) hr⟩
 exact all X.outer (fun _ hb=>hb) I.ok.funs
theorem Inv.stack (I:Inv X pins σ H s):s.heap.FunFrames X.base X.stack:=by
 rcases I.ok.stk with e | ⟨e,hf⟩
 ·rw [e];exact I.funs
 ·rw [e]
  obtain ⟨m,hn,_⟩:=I.loc
  refine .cons (by rw [I.ok.kind];decide) hf hn ?_ I.funs
  exact Heap.get?_none_of_le (ya1 I.ok.bsz I.ok.above)
theorem Inv.stkSub (I:Inv X pins σ H s):∀ b∈frs X.stack,b∈X.env.locals :: X.fs:=fun b hb=>by
 rcases I.ok.stk with e | ⟨e,hf⟩
 ·rw [e] at hb;exact yap _ hb
 ·rw [e] at hb
  unfold frs at hb
  rw [yeQ,hf] at hb
  exact hb
theorem Inv.stkFree (I:Inv X pins σ H s):∀ b∈frs X.stack,H b=none:=fun b hb=>by
 rcases yaN.mp (I.stkSub b hb) with e | hb
 ·rw [e];exact I.free
 ·obtain ⟨_,o,ho,_⟩:=I.ok.funs.mem hb
  exact I.base.free b o ho (I.ok.frf b hb) fun z=>I.ok.exfs b z hb
theorem Inv.step {g':Array GenState} {t':Nat} {d':Drawn} {ch:List Addr} (I:Inv X pins σ H s)
  (hch:∀ b∈ch,(b∈X.ex∨X.s₀.heap.objs.size≤b)∧b≠X.env.locals∧(∀ x c,X.env.cells.lookup x=some c→c≠b)∧∀ p∈X.pn++pins,p.1≠b)
  (keep:∀ b o,b≠X.env.locals→b∉X.fs→b∉ch→s.heap.get? b=some o→H b=none→h'.get? b=some o)
  (slot:∀ b o,b≠X.env.locals→b∈X.fs→b∉ch→s.heap.get? b=some o→H b=none→∃ sl,h'.get? b=some { o with slots:=sl }) (free:∀ b o,b∉ch→s.heap.get? b=some o→H b=none→H' b=none)
  (there:∀ b o,b∉ch→s.heap.get? b=some o→∃ o',h'.get? b=some o')
  (tups:∀ b xs,H b=some (.tup xs)→H' b=some (.tup xs)) (frzs:∀ b o u,H b=some (.frz o u)→H' b=some (.frz o u)) (tbls:∀ b ps,H b=some (.tbl ps)→∃ more,H' b=some (.tbl (ps++more)))
  (ns:∀ m,s.heap.Ns X.env.locals m→h'.Ns X.env.locals m) (hok:HOk X.prog X.w H' h') (hg:AllBare g') :
  Inv X pins σ H' { s with heap:=h',gens:=g',drawn:=d',toks:=t' }:=by
 have neL:∀ b o,X.s₀.heap.get? b=some o→b≠X.env.locals:=fun b o e=>yaF (yaT (yak e) I.ok.above)
 have neC:∀ b o,X.s₀.heap.get? b=some o→b∉X.ex→b∉ch:=fun b o e hx hb=>by
  rcases (hch b hb).1 with z | z
  ·exact hx z
  ·exact absurd (yaT (yak e) z) (ycQ _)
 have cellK:∀ x c,X.env.cells.lookup x=some c→∀ v,s.heap.IsCell c v→h'.IsCell c v:=by
  rintro x c e v ⟨o,ho,hd⟩
  have nch:c∉ch:=fun z=>(hch c z).2.2.1 x c e rfl
  by_cases hc:c∈X.fs
  ·obtain ⟨sl,q⟩:=slot c o (I.cne x c e) hc nch ho (I.freeC x c e)
   exact ⟨_,q,hd⟩
  ·exact ⟨o,keep c o (I.cne x c e) hc nch ho (I.freeC x c e),hd⟩
 refine ⟨I.ok,I.os,hg,⟨fun b o e n hb hx => ?_,fun b o e n hb hx => ?_,fun b o e n hx => ?_,fun b o e hx => ?_,fun b xs e=>tups b xs (I.base.tups b xs e),fun b o xs e=>frzs b o xs (I.base.frzs b o xs e),fun b ps e => ?_⟩,?_,fun x c e => ?_,?_,fun x c e => ?_,fun p hp => ?_,hok,I.len⟩
 ·exact keep b o (neL b o e) hb (neC b o e hx) (I.base.keep b o e n hb hx) (I.base.free b o e n hx)
 ·obtain ⟨sl,e1⟩:=I.base.slot b o e n hb hx
  obtain ⟨sl',e2⟩:=slot b _ (neL b o e) hb (neC b o e hx) e1 (I.base.free b o e n hx)
  exact ⟨sl',e2⟩
 ·obtain ⟨o',e1⟩:=I.base.there b o e hx
  exact free b o' (neC b o e hx) e1 (I.base.free b o e n hx)
 ·obtain ⟨o',e1⟩:=I.base.there b o e hx
  exact there b o' (neC b o e hx) e1
 ·obtain ⟨m1,e1⟩:=I.base.tbls b ps e
  obtain ⟨m2,e2⟩:=tbls b _ e1
  exact ⟨m1++m2,by rw [e2,Array.append_assoc]⟩
 ·obtain ⟨m,hn,hl⟩:=I.loc
  refine ⟨m,ns m hn,fun i x v e1 e2 e3 => ?_⟩
  obtain ⟨u,r,l⟩:=hl i x v e1 e2 e3
  refine ⟨u,r,?_⟩
  rcases l with l | ⟨k,c,e,z⟩
  ·exact .inl l
  ·exact .inr ⟨k,c,e,cellK x c e _ z⟩
 ·obtain ⟨v,z⟩:=I.cell x c e
  exact ⟨v,cellK x c e v z⟩
 ·obtain ⟨m,⟨o,_,_,ho,_⟩,_⟩:=I.loc
  exact free _ o (fun z=>(hch _ z).2.1 rfl) ho I.free
 ·obtain ⟨v,o,ho,hd⟩:=I.cell x c e
  exact free c o (fun z=>(hch c z).2.2.1 x c e rfl) ho (I.freeC x c e)
 ·obtain ⟨e,n,ne,nf,d⟩:=I.pin p hp
  have nch:p.1∉ch:=fun z=>(hch p.1 z).2.2.2 p hp rfl
  exact ⟨keep p.1 p.2 ne nf nch e n,free p.1 p.2 nch e n,ne,nf,d⟩
theorem Inv.un {t':Nat} (I:Inv X pins σ H s) (u:Un X.fs [] H H' s.heap h') (hok:HOk X.prog X.w H' h'):Inv X pins σ H' { s with heap:=h',toks:=t' }:=by
 obtain ⟨m,⟨o,es,ep,ho,r⟩,_⟩:=id I.loc
 obtain ⟨sl,hL⟩:=u.any ho I.free (by simp)
 exact I.step (g':=s.gens) (d':=s.drawn) (ch := []) (fun _ z=>nomatch z) (fun b o _ hb _ e n=>u.keep b o e n hb (by simp)) (fun b o _ hb _ e n=>u.slot b o e n hb (by simp)) (fun b o _ e n=>u.free b o e n (by simp)) (fun b o _ e=>u.there b o e (by simp)) u.tups u.frzs u.tbls (fun m' hm=>by
  obtain ⟨o',es',ep',ho',r'⟩:=hm
  rw [ho] at ho';cases ho'
  exact ⟨_,es',ep',hL,r'⟩) hok I.bare
theorem Inv.call {g':Array GenState} {t':Nat} {d':Drawn} {ch:List Addr} (I:Inv X pins σ H s) (u:Un (frs X.stack) ch H H' s.heap h') (hok:HOk X.prog X.w H' h') (hg:AllBare g')
  (hch:∀ b∈ch,(b∈X.ex∨X.s₀.heap.objs.size≤b)∧b≠X.env.locals∧(∀ x c,X.env.cells.lookup x=some c→c≠b)∧∀ p∈X.pn++pins,p.1≠b) :
  Inv X pins σ H' { s with heap:=h',gens:=g',drawn:=d',toks:=t' }:=by
 obtain ⟨m,⟨o,es,ep,ho,r⟩,_⟩:=id I.loc
 obtain ⟨sl,hL⟩:=u.any ho I.free fun z=>(hch _ z).2.1 rfl
 exact I.step (ch:=ch) hch (fun b o hL hb hc e n=>u.keep b o e n (fun z=>(yaN.mp (I.stkSub b z)).elim hL hb) hc) (fun b o _ _ hc e n=>u.any e n hc) (fun b o hc e n=>u.free b o e n hc) (fun b o hc e=>u.there b o e hc) u.tups u.frzs u.tbls (fun m' hm=>by
  obtain ⟨o',es',ep',ho',r'⟩:=hm
  rw [ho] at ho';cases ho'
  exact ⟨_,es',ep',hL,r'⟩) hok hg
theorem Inv.turned {t':Nat} {it:Addr} (I:Inv X pins σ H s) (k:∀ b o,b≠it→s.heap.get? b=some o→h'.get? b=some o) (hn:H it=none) (hL:it≠X.env.locals)
  (h1:it∈X.ex∨X.s₀.heap.objs.size≤it) (h2:∀ x c,X.env.cells.lookup x=some c→c≠it) (h3:∀ p∈X.pn++pins,p.1≠it):Inv X pins σ H { s with heap:=h',toks:=t' }:=by
 have nit:∀ b u,H b=some u→b≠it:=fun b u e z=>by rw [z,hn] at e;cases e
 refine I.step (g':=s.gens) (d':=s.drawn) (ch := [it]) (fun b hb => ?_) (fun b o _ _ hc e _=>k b o (fun z=>hc (by simp [z])) e) (fun b o _ _ hc e _=>⟨o.slots,k b o (fun z=>hc (by simp [z])) e⟩) (fun _ _ _ _ n=>n)
  (fun b o hc e=>⟨o,k b o (fun z=>hc (by simp [z])) e⟩) (fun _ _ e=>e) (fun _ _ _ e=>e) (fun b ps e=>⟨#[],by rw [e];simp⟩) (fun m hm => ?_) (fun b u e => ?_) I.bare
 ·have e:b=it:=by simpa using hb
  subst e
  exact ⟨h1,hL,h2,h3⟩
 ·obtain ⟨o,es,ep,ho,r⟩:=hm
  exact ⟨o,es,ep,k _ o (yco hL) ho,r⟩
 ·refine (I.hok b u e).stay (fun c v hc q=>k c v ?_ q) (fun _ q=>q) fun _ _ q=>q
  rcases hc with z | z
  ·rw [z];exact nit b u e
  ·exact nit c _ z
theorem Inv.tok (I:Inv X pins σ H s) (t:Nat):Inv X pins σ H { s with toks:=t }:=I.un (h':=s.heap) (t':=t) Un.refl I.hok
theorem Inv.kept {t':Nat} (I:Inv X pins σ H s) (k:∀ b u,s.heap.get? b=some u→h'.get? b=some u):Inv X pins σ H { s with heap:=h',toks:=t' }:=I.un (Un.kept k) (I.hok.kept k)
theorem Inv.laid {a:Addr} {o:HO} {t':Nat} (I:Inv X pins σ H s) (k:∀ b u,s.heap.get? b=some u→h'.get? b=some u) (hp:s.heap.objs.size≤a) (new:ObjOk X.prog X.w (upd H a o) h' a o) :
  Inv X pins σ (upd H a o) { s with heap:=h',toks:=t' }:=I.un (Un.laid k hp (I.hok.fresh hp)) (I.hok.laid k hp new)
theorem Inv.write {x e:Addr} {o:HO} {t':Nat} (I:Inv X pins σ H s) (mu:Mut (H x)) (he:e=x∨H e=some (.own x)) (k:∀ b u,b≠e→s.heap.get? b=some u→h'.get? b=some u) (heo:∃ u,h'.get? e=some u)
  (new:ObjOk X.prog X.w (upd H x o) h' x o):Inv X pins σ (upd H x o) { s with heap:=h',toks:=t' }:=I.un (Un.write mu he k heo) (I.hok.write mu he k heo new)
theorem Inv.pins_of {pins':List (Addr×Obj)} (I:Inv X pins σ H s) (h:∀ p∈pins',s.heap.get? p.1=some p.2∧H p.1=none∧p.1≠X.env.locals∧p.1∉X.fs∧∀ v,p.2.data ≠ .cell v):Inv X pins' σ H s :=
 ⟨I.ok,I.os,I.bare,I.base,I.loc,I.cell,I.free,I.freeC,fun p hp=>(ybn.mp hp).elim (fun z=>I.pin p (ydA _ z)) (h p),I.hok,I.len⟩
theorem zi1 {N:List Str} (hN:N.Nodup) {i j:Nat} {x:Str} (a:N[i]? = some x) (b:N[j]? = some x):i=j:=by
 obtain ⟨h1,e1⟩:=ybj.mp a
 obtain ⟨h2,e2⟩:=ybj.mp b
 exact (ydd hN).mp (e1.trans e2.symm)
theorem zhw {M:Model} {A:Around} {E:Value→Shared→Prop} {i:Nat} {x:Str} {v:V} {u:Value} {Q:Unit→Shared→Prop} (I:Inv X pins σ H s) (hN:X.N.Nodup) (hi:X.N[i]? = some x) (hx:Loc X.env.scope x) (r:RelV v u)
  (h:∀ s',Inv X pins (σ.set i (some v)) H s'→(∃ a,Heap.SameBut a s.heap s'.heap∧(a=X.env.locals∨X.env.cells.lookup x=some a))→Q () s') (hf:X.fn x=true∨X.env.scope.names.lookup x=some .local:=by first | exact .inl rfl | exact .inr rfl | assumption):wpAny M A (storeName X.env x u) Q E s:=by
 obtain ⟨m,hn,hl⟩:=id I.loc
 have hcls:(X.env.scope.kind == .class || (X.env.scope.kind == .module&&X.env.locals != X.env.globals))=false:=by rw [I.ok.kind];rfl
 have hiσ:i < σ.length:=by rw [I.len];exact (ybj.mp hi).1
 have cne:=I.cne
 have tracked:∀ {a:Addr} {h':Heap},(∃ o,s.heap.get? a=some o∧H a=none)→Heap.SameBut a s.heap h'→HOk X.prog X.w H h':=fun {a h'} ha hs b ob e=>by
  obtain ⟨_,_,hfree⟩:=ha
  refine (I.hok b ob e).stay (fun c w' hc q=>(hs.2 c ?_).trans q) (fun _ q=>q) fun _ _ q=>q
  rintro rfl
  rcases hc with rfl | hc
  ·rw [hfree] at e;cases e
  ·rw [hfree] at hc;cases hc
 rcases hx with hk | hk
 ·refine wpAny_storeName_local hk hn (fun h' hn' hs => ?_) hcls
  obtain ⟨oL,_,_,hoL,_⟩:=id hn
  refine h _ ⟨I.ok,I.os,I.bare,⟨fun b o e n hb hx => ?_,fun b o e n hb hx => ?_,I.base.free,fun b o e hx => ?_,I.base.tups,I.base.frzs,I.base.tbls⟩,⟨_,hn',fun j y v' e1 e2 e3 => ?_⟩,fun y c e => ?_,I.free,I.freeC,fun p hp => ?_,tracked ⟨oL,hoL,I.free⟩ hs,by simpa using I.len⟩ ⟨_,hs,.inl rfl⟩
  ·exact (hs.2 b (yaF (yaT (yak e) I.ok.above))).trans (I.base.keep b o e n hb hx)
  ·obtain ⟨sl,e1⟩:=I.base.slot b o e n hb hx
   exact ⟨sl,(hs.2 b (yaF (yaT (yak e) I.ok.above))).trans e1⟩
  ·obtain ⟨o',e1⟩:=I.base.there b o e hx
   exact ⟨o',(hs.2 b (yaF (yaT (yak e) I.ok.above))).trans e1⟩
  ·by_cases hj:j=i
   ·subst hj
    rw [hi] at e1;cases e1
    rw [List.getElem?_set_self hiσ] at e2
    cases e2
    exact ⟨u,r,.inl ⟨hk,by simp⟩⟩
   ·rw [List.getElem?_set_ne (yco hj)] at e2
    obtain ⟨u',r',q⟩:=hl j y v' e1 e2 e3
    refine ⟨u',r',?_⟩
    rcases q with ⟨k,e⟩ | ⟨k,c,e,z⟩
    ·refine .inl ⟨k,?_⟩
     have:y≠x:=fun e=>hj (zi1 hN e1 (e ▸ hi))
     simp [this,e]
    ·exact .inr ⟨k,c,e,z.sameBut hs (cne y c e)⟩
  ·obtain ⟨w',z⟩:=I.cell y c e
   exact ⟨w',z.sameBut hs (cne y c e)⟩
  ·obtain ⟨e,n,ne,nf,d⟩:=I.pin p hp
   exact ⟨(hs.2 p.1 ne).trans e,n,ne,nf,d⟩
 ·have hfn:X.fn x=true:=by
   rcases hf with z | z
   ·exact z
   ·rw [z] at hk;cases hk
  obtain ⟨c,hc⟩:=I.ok.has x (.inl hk)
  obtain ⟨w',z⟩:=I.cell x c hc
  refine wpAny_storeName_cell I.ok.kind hk hc z (fun h' hc' hs => ?_)
  obtain ⟨oc,hoc,hocd⟩:=id z
  refine h { s with heap:=h' } ⟨I.ok,I.os,I.bare,⟨fun b o e n hb hx => ?_,fun b o e n hb hx => ?_,I.base.free,fun b o e hx => ?_,I.base.tups,I.base.frzs,I.base.tbls⟩,⟨m,hn.sameBut hs (yco (cne x c hc)),fun j y v' e1 e2 e3 => ?_⟩,fun y c' e => ?_,I.free,I.freeC,fun p hp => ?_,tracked ⟨oc,hoc,I.freeC x c hc⟩ hs,by simpa using I.len⟩ ⟨c,hs,.inr hc⟩
  ·exact (hs.2 b (yaF (yaT (yak e) (I.ok.cab x c hfn hc)))).trans (I.base.keep b o e n hb hx)
  ·obtain ⟨sl,e1⟩:=I.base.slot b o e n hb hx
   exact ⟨sl,(hs.2 b (yaF (yaT (yak e) (I.ok.cab x c hfn hc)))).trans e1⟩
  ·obtain ⟨o',e1⟩:=I.base.there b o e hx
   exact ⟨o',(hs.2 b (yaF (yaT (yak e) (I.ok.cab x c hfn hc)))).trans e1⟩
  ·by_cases hj:j=i
   ·subst hj
    rw [hi] at e1;cases e1
    rw [List.getElem?_set_self hiσ] at e2
    cases e2
    exact ⟨u,r,.inr ⟨.inl hk,c,hc,hc'⟩⟩
   ·rw [List.getElem?_set_ne (yco hj)] at e2
    obtain ⟨u',r',q⟩:=hl j y v' e1 e2 e3
    refine ⟨u',r',?_⟩
    rcases q with q | ⟨k,c',e,z'⟩
    ·exact .inl q
    ·refine .inr ⟨k,c',e,z'.sameBut hs ?_⟩
     rintro rfl
     exact hj (zi1 hN e1 (I.ok.inj _ _ _ e hc ▸ hi))
  ·by_cases hcc:c'=c
   ·subst hcc;exact ⟨_,hc'⟩
   ·obtain ⟨w2,z2⟩:=I.cell y c' e
    exact ⟨w2,z2.sameBut hs hcc⟩
  ·obtain ⟨e,n,ne,nf,d⟩:=I.pin p hp
   refine ⟨(hs.2 p.1 ?_).trans e,n,ne,nf,d⟩
   intro q
   rw [q,hoc] at e
   have q':oc=p.2:=yas e
   exact d w' (by rw [← q'];exact hocd)
theorem zja {M:Model} {A:Around} {E:Value→Shared→Prop} {i:Nat} {x:Str} {v:V} {u:Value} {Q:Unit→Shared→Prop} (I:Inv X pins σ H s) (hN:X.N.Nodup) (hi:X.N[i]? = some x) (hx:Loc X.env.scope x) (r:RelV v u)
  (h:∀ s',Inv X pins (σ.set i (some v)) H s'→Q () s') (hf:X.fn x=true∨X.env.scope.names.lookup x=some .local:=by first | exact .inl rfl | exact .inr rfl | assumption):wpAny M A (storeName X.env x u) Q E s :=
 zhw I hN hi hx r (fun s' I' _=>h s' I') hf
theorem Inv.call' {s':Shared} {ch:List Addr} (I:Inv X pins σ H s) (ho:s'.os=s.os) (u:Un (frs X.stack) ch H H' s.heap s'.heap) (hok:HOk X.prog X.w H' s'.heap) (hg:AllBare s'.gens)
  (hch:∀ b∈ch,(b∈X.ex∨X.s₀.heap.objs.size≤b)∧b≠X.env.locals∧(∀ x c,X.env.cells.lookup x=some c→c≠b)∧∀ p∈X.pn++pins,p.1≠b):Inv X pins σ H' s':=by
 obtain ⟨h',g',d',t',o'⟩:=s'
 have e:o'=s.os:=ho
 subst e
 exact I.call (g':=g') (t':=t') (d':=d') u hok hg hch
end
abbrev XK:=Value→Option Addr→Hp→Prop
abbrev St:=List (Option V)
abbrev VK:=V→Hp→Prop
abbrev TE:=St→Hp→VK→Prop
abbrev TT:=St→Hp→(Bool→Hp→Prop)→Prop
abbrev TA:=St→Hp→(List V→Hp→Prop)→Prop
structure Ends where
 nx:St→Hp→Prop
 rt:VK
 bk:St→Hp→Prop:=fun _ _=>False
 ct:St→Hp→Prop:=fun _ _=>False
abbrev TS:=Ends→St→Hp→Prop
def EP (X:Cx) (pins:List (Addr×Obj)) (σ:St) (Q:VK) (u:Value) (s':Shared):Prop:=∃ v H',Inv X pins σ H' s'∧RelV v u∧Q v H'
def TP (X:Cx) (pins:List (Addr×Obj)) (σ:St) (Q:Bool→Hp→Prop) (b:Bool) (s':Shared):Prop:=∃ H',Inv X pins σ H' s'∧Q b H'
def AP (X:Cx) (pins:List (Addr×Obj)) (σ:St) (Q:List V→Hp→Prop) (us:List Value) (s':Shared):Prop:=∃ vs H',Inv X pins σ H' s'∧Vals vs us∧Q vs H'
def SP (X:Cx) (pins:List (Addr×Obj)) (D:Ends) (f:Flow) (s':Shared):Prop :=
 match f with
 | .next=>∃ σ' H',Inv X pins σ' H' s'∧D.nx σ' H'
 | .brk=>∃ σ' H',Inv X pins σ' H' s'∧D.bk σ' H'
 | .cont=>∃ σ' H',Inv X pins σ' H' s'∧D.ct σ' H'
 | .ret u=>∃ v σ' H',Inv X pins σ' H' s'∧RelV v u∧D.rt v H'
def PE (X:Cx) (e:Expr) (t:TE):Prop :=
 ∀ (pins:List (Addr×Obj)) (s:Shared) (σ:St) (H:Hp) (Q:VK),Inv X pins σ H s→t σ H Q→wpAny (model X.prog X.w) X.A (eval e X.env) (EP X pins σ Q) X.xe s
def PT (X:Cx) (e:Expr) (t:TT):Prop :=
 ∀ (pins:List (Addr×Obj)) (s:Shared) (σ:St) (H:Hp) (Q:Bool→Hp→Prop),Inv X pins σ H s→t σ H Q→wpAny (model X.prog X.w) X.A (isTrue e X.env (eval e X.env)) (TP X pins σ Q) X.xe s
def PW (X:Cx) (e:Expr) (t:TT):Prop :=
 ∀ (whole:Sem Value) (pins:List (Addr×Obj)) (s:Shared) (σ:St) (H:Hp) (Q:Bool→Hp→Prop),Inv X pins σ H s→t σ H Q→wpAny (model X.prog X.w) X.A (isTrue e X.env whole) (TP X pins σ Q) X.xe s
theorem PW.pt {X:Cx} {e:Expr} {t:TT} (h:PW X e t):PT X e t:=h _
def PA (X:Cx) (es:List Expr) (t:TA):Prop :=
 ∀ (pos:Pos) (pins:List (Addr×Obj)) (s:Shared) (σ:St) (H:Hp) (Q:List V→Hp→Prop),Inv X pins σ H s→t σ H Q→wpAny (model X.prog X.w) X.A (spliced (yer pos (ya6 es X.env))) (AP X pins σ Q) X.xe s
def PS (X:Cx) (st:Stmt) (t:TS):Prop :=
 ∀ (pins:List (Addr×Obj)) (s:Shared) (σ:St) (H:Hp) (D:Ends),Inv X pins σ H s→t D σ H→wpAny (model X.prog X.w) X.A (exec st X.env) (SP X pins D) X.xe s
def PSs (X:Cx) (st:List Stmt) (t:TS):Prop :=
 ∀ (pins:List (Addr×Obj)) (s:Shared) (σ:St) (H:Hp) (D:Ends),Inv X pins σ H s→t D σ H→wpAny (model X.prog X.w) X.A (execs st X.env) (SP X pins D) X.xe s
theorem thn {α:Type} {t:Sem α} {Q Q':α→Shared→Prop} {M:Model} {A:Around} {E:Value→Shared→Prop} {s:Shared} (h:wpAny M A t Q E s) (hQ:∀ a s,Q a s→Q' a s):wpAny M A t Q' E s:=ycb h hQ fun _ _ x=>x
section
variable {X:Cx}
def tVar (i:Nat):TE:=fun σ H Q=>∃ v,σ[i]? = some (some v)∧Q v H
def tC (v:V):TE:=fun _ H Q=>Q v H
theorem pe_var {i:Nat} {x:Str} {pos:Pos} (hN:X.N[i]? = some x) (hv:Vis X.env.scope x) (hd:(x == ("__debug__" : Str))=false:=by decide) (hcd:(x == ("__classdict__" : Str))=false:=by decide):PE X (.Name x pos) (tVar i):=by
 intro pins s σ H Q I h
 obtain ⟨v,e,h⟩:=h
 obtain ⟨m,hn,hl⟩:=I.loc
 obtain ⟨u,r,l⟩:=hl i x v hN e hv
 have fin:EP X pins σ Q u s:=⟨v,H,I,r,h⟩
 rcases l with ⟨hk,hm⟩ | ⟨hk,c,hc,hcell⟩
 ·exact wpAny_Name (wpAny_loadName_local I.ok.kind hk hn hm fin) hd
 ·rcases hk with hk | hk
  ·exact wpAny_Name (wpAny_loadName_cell I.ok.kind hk hc hcell fin) hd
  ·exact wpAny_Name (wpAny_loadName_free I.ok.kind hk hc hcell fin hcd) hd
theorem zaf {i j pos}:PE X (.Constant (.int i) j pos) (tC (.int i)):=fun _ _ _ H _ I h=>wpAny_Constant_int ⟨.int i,H,I.tok _,⟨_,rfl⟩,h⟩
theorem pe_bl {b j pos}:PE X (.Constant (.bool b) j pos) (tC (.bl b)):=fun _ _ _ H _ I h=>Constant_bool ⟨.bl b,H,I,rfl,h⟩
theorem zaZ {j pos}:PE X (.Constant .none j pos) (tC .non):=fun _ _ _ H _ I h=>Constant_none ⟨.non,H,I,rfl,h⟩
theorem zay {x j pos}:PE X (.Constant (.str x) j pos) (tC (.str x)):=fun _ _ _ H _ I h=>Calls.Constant_str ⟨.str x,H,I.tok _,⟨_,rfl⟩,h⟩
def Gl (X:Cx) (x:Str):Prop:=X.env.kindOf x=some .globalImplicit
theorem zh2 {E:Value→Shared→Prop} {pins:List (Addr×Obj)} {s:Shared} {σ:St} {H:Hp} {x:Str} {u:Value} {pos:Pos} {Q:Value→Shared→Prop} (I:Inv X pins σ H s) (hg:Gl X x) (hm:X.mg x=some u) (h:Q u s)
  (hd:(x == ("__debug__" : Str))=false:=by decide):wpAny (model X.prog X.w) X.A (eval (.Name x pos) X.env) Q E s :=
 Calls.Name_function_global I.ok.kind hg (Calls.loadGlobal_global (by rw [I.ok.glob];exact I.mod.glob.keeps I.bk) hm h) hd
theorem zfK {E:Value→Shared→Prop} {pins:List (Addr×Obj)} {s:Shared} {σ:St} {H:Hp} {x:Str} {u:Value} {pos:Pos} {Q:Value→Shared→Prop} (I:Inv X pins σ H s) (hg:Gl X x) (hm:X.mg x=none) (hv:ybw x=some u) (h:Q u s)
  (hn:x ≠ "__name__":=by decide) (hd:(x == ("__debug__" : Str))=false:=by decide):wpAny (model X.prog X.w) X.A (eval (.Name x pos) X.env) Q E s:=by
 obtain ⟨mb,h1,h2⟩:=I.mod.blt
 exact Calls.Name_function_global I.ok.kind hg (Calls.loadGlobal_builtin (by rw [I.ok.glob];exact I.mod.glob.keeps I.bk) hm (by rw [I.ok.blt];exact h1.keeps I.bk) ((h2 x hn).trans hv) h) hd
theorem zbJ {x:Str} {v:V} {u:Value} {pos:Pos} (hg:Gl X x) (hm:X.mg x=some u) (r:RelV v u) (hd:(x == ("__debug__" : Str))=false:=by decide):PE X (.Name x pos) (tC v) :=
 fun _ _ _ H _ I h=>zh2 I hg hm ⟨v,H,I,r,h⟩ hd
theorem zbH {x:Str} {v:V} {u:Value} {pos:Pos} (hg:Gl X x) (hm:X.mg x=none) (hv:ybw x=some u) (r:RelV v u) (hn:x ≠ "__name__":=by decide) (hd:(x == ("__debug__" : Str))=false:=by decide):PE X (.Name x pos) (tC v) :=
 fun _ _ _ H _ I h=>zfK I hg hm hv ⟨v,H,I,r,h⟩ hn hd
variable {a b:Expr} {ta tb:TE} {pos:Pos}
def PC (X:Cx) (op:CmpOp) (a b:Expr) (t:TE):Prop :=
 ∀ (pins:List (Addr×Obj)) (s:Shared) (σ:St) (H:Hp) (Q:VK),Inv X pins σ H s→t σ H Q →
  wpAny (model X.prog X.w) X.A (eval a X.env) (fun v s₁=>wpAny (model X.prog X.w) X.A (eval b X.env) (fun u s₂=>wpAny (model X.prog X.w) X.A (ybo op v u) (EP X pins σ Q) X.xe s₂) X.xe s₁) X.xe s
theorem zjd (b:Expr) {op:CmpOp} (h:op ≠ .In) (h2:op ≠ .NotIn):yc9 op b=false:=by
 have e1:(op == CmpOp.In)=false:=by cases op <;> first | rfl | exact absurd rfl h
 have e2:(op == CmpOp.NotIn)=false:=by cases op <;> first | rfl | exact absurd rfl h2
 cases b <;> simp [yc9,e1,e2]
def tIsN (ta:TE):TE:=fun σ H Q=>ta σ H fun x H1=>Q (.bl (decide (x = .non))) H1
def tNotN (ta:TE):TE:=fun σ H Q=>ta σ H fun x H1=>Q (.bl (!decide (x = .non))) H1
theorem RelV.none_iff {x:V} {v:Value} (r:RelV x v):(v == ycy)=decide (x = .non):=by
 cases x with
 | non=>cases r;rfl
 | bl _=>cases r;rfl
 | int _=>obtain ⟨t,rfl⟩:=r;rfl
 | str _=>obtain ⟨t,rfl⟩:=r;rfl
 | byt _=>obtain ⟨t,rfl⟩:=r;rfl
 | flt _=>obtain ⟨t,rfl⟩:=r;rfl
 | ref _=>cases r;rfl
 | ty _=>cases r;rfl
theorem zdl {j pos'} (ha:PE X a ta):PC X .Is a (.Constant .none j pos') (tIsN ta):=by
 intro pins s σ H Q I h
 refine thn (ha pins s σ H _ I h) fun v s1 ho_ => ?_
 obtain ⟨x,H1,I1,r1,q1⟩:=ho_
 exact Constant_none (is_none_gen ⟨.bl _,H1,I1,by rw [r1.none_iff];rfl,q1⟩)
theorem pc_notN {j pos'} (ha:PE X a ta):PC X .IsNot a (.Constant .none j pos') (tNotN ta):=by
 intro pins s σ H Q I h
 refine thn (ha pins s σ H _ I h) fun v s1 ho_ => ?_
 obtain ⟨x,H1,I1,r1,q1⟩:=ho_
 exact Constant_none (isnot_none_gen ⟨.bl _,H1,I1,by rw [r1.none_iff];rfl,q1⟩)
def tB (t:TE):TT:=fun σ H Q=>t σ H fun x H1=>∃ c,x = .bl c∧Q c H1
theorem pe_cmp {op:CmpOp} {t:TE} (h:PC X op a b t) (h1:yc9 op b=false:=by first | exact zjd _ (by decide) (by decide) | rfl):PE X (.Compare a [op] [b] pos) t:=fun pins s σ H Q I hw=>wpAny_Compare1 (h pins s σ H Q I hw) h1
theorem zc0 {op:CmpOp} {t:TE} (h:PC X op a b t) (h1:yc9 op b=false:=by first | exact zjd _ (by decide) (by decide) | rfl):PT X (.Compare a [op] [b] pos) (tB t):=by
 intro pins s σ H Q I hw
 refine wpAny_isTrue_Compare1 (thn (h pins s σ H _ I hw) fun v s1 h1=>thn h1 fun u s2 h2=>thn h2 fun c s3 ho_ => ?_) h1
 obtain ⟨x,H1,I1,r1,q1⟩:=ho_
 obtain ⟨d,rfl,q⟩:=q1
 cases r1
 exact ybN ⟨H1,I1,q⟩
theorem zbz {e:Expr} {t:TE} (h:PE X e t) (he:∀ whole,isTrue e X.env whole=(do let v ← whole;standAt e.pos;holding [v] (truthy v)):=by intro _;rfl):PT X e (tB t):=by
 intro pins s σ H Q I hw
 refine isTrue_plain (thn (h pins s σ H _ I hw) fun v s1 ho_ => ?_) (he _)
 obtain ⟨x,H1,I1,r1,q1⟩:=ho_
 obtain ⟨d,rfl,q⟩:=q1
 cases r1
 exact ybN ⟨H1,I1,q⟩
variable {tA tB':TT} {rest:List Expr}
def tAnd (t u:TT):TT:=fun σ H Q=>t σ H fun c H1=>if c=true then u σ H1 Q else Q false H1
def tOr (t u:TT):TT:=fun σ H Q=>t σ H fun c H1=>if c=true then Q true H1 else u σ H1 Q
def tNot (t:TT):TT:=fun σ H Q=>t σ H fun c H1=>Q (!c) H1
theorem zeo (ha:PT X a tA):PW X (.BoolOp .And [a] pos) tA:=by
 intro wh pins s σ H Q I h
 refine isTrue_and (thn (ha pins s σ H Q I h) fun c s1 e => ?_)
 cases c with
 | true=>exact isTrue_and_nil e
 | false=>exact e
theorem zbn (ha:PT X a tA):PW X (.BoolOp .Or [a] pos) tA:=by
 intro wh pins s σ H Q I h
 refine isTrue_or (thn (ha pins s σ H Q I h) fun c s1 e => ?_)
 cases c with
 | false=>exact isTrue_or_nil e
 | true=>exact e
theorem zg1 (ha:PT X a tA) (hb:PW X (.BoolOp .And (b :: rest) pos) tB'):PW X (.BoolOp .And (a :: b :: rest) pos) (tAnd tA tB'):=by
 intro wh pins s σ H Q I h
 refine isTrue_and (thn (ha pins s σ H _ I h) fun c s1 ho_ => ?_)
 obtain ⟨H1,I1,q1⟩:=ho_
 cases c with
 | true=>exact hb wh pins s1 σ H1 Q I1 q1
 | false=>exact ⟨H1,I1,q1⟩
theorem pw_or (ha:PT X a tA) (hb:PW X (.BoolOp .Or (b :: rest) pos) tB'):PW X (.BoolOp .Or (a :: b :: rest) pos) (tOr tA tB'):=by
 intro wh pins s σ H Q I h
 refine isTrue_or (thn (ha pins s σ H _ I h) fun c s1 ho_ => ?_)
 obtain ⟨H1,I1,q1⟩:=ho_
 cases c with
 | true=>exact ⟨H1,I1,q1⟩
 | false=>exact hb wh pins s1 σ H1 Q I1 q1
theorem zbF (ha:PT X a tA):PT X (.UnaryOp .Not a pos) (tNot tA):=by
 intro pins s σ H Q I h
 exact isTrue_not (ha pins s σ H (fun c H1=>Q (!c) H1) I h)
def tAndV (ta tb:TE):TE:=fun σ H Q=>ta σ H fun x H1=>∃ c,x = .bl c∧if c=true then tb σ H1 Q else Q (.bl false) H1
def tNotV (ta:TE):TE:=fun σ H Q=>ta σ H fun x H1=>∃ c,x = .bl c∧Q (.bl (!c)) H1
theorem zgM {op} {t:TE} (h:PE X a t):PE X (.BoolOp op [a] pos) t:=fun pins s σ H Q I hw=>BoolOp_one (h pins s σ H Q I hw)
theorem zgJ (ha:PE X a ta) (hb:PE X (.BoolOp .And (b :: rest) pos) tb):PE X (.BoolOp .And (a :: b :: rest) pos) (tAndV ta tb):=by
 intro pins s σ H Q I h
 refine BoolOp_and (thn (ha pins s σ H _ I h) fun v s1 ho_ => ?_)
 obtain ⟨x,H1,I1,r1,q1⟩:=ho_
 obtain ⟨c,rfl,q1⟩:=q1
 cases r1
 refine ybN ?_
 cases c with
 | true=>exact hb pins s1 σ H1 Q I1 q1
 | false=>exact ⟨.bl false,H1,I1,rfl,q1⟩
theorem pe_not (ha:PE X a ta):PE X (.UnaryOp .Not a pos) (tNotV ta):=by
 intro pins s σ H Q I h
 refine UnaryOp_ (thn (ha pins s σ H _ I h) fun v s1 ho_ => ?_)
 obtain ⟨x,H1,I1,r1,q1⟩:=ho_
 obtain ⟨c,rfl,q1⟩:=q1
 cases r1
 exact not_of (ybN ⟨.bl (!c),H1,I1,rfl,q1⟩)
def tIf (t:TT) (ta tb:TE):TE:=fun σ H Q=>t σ H fun c H1=>if c=true then ta σ H1 Q else tb σ H1 Q
theorem zcQ {c:Expr} (hc:PT X c tA) (ha:PE X a ta) (hb:PE X b tb):PE X (.IfExp c a b pos) (tIf tA ta tb):=by
 intro pins s σ H Q I h
 refine wpAny_IfExp (thn (hc pins s σ H _ I h) fun d s1 ho_ => ?_)
 obtain ⟨H1,I1,q1⟩:=ho_
 cases d with
 | true=>exact ha pins s1 σ H1 Q I1 q1
 | false=>exact hb pins s1 σ H1 Q I1 q1
end
def SqL (K:PySem.W.Frag) (H:Hp) (a:Addr) (xs:List V):Prop :=
 Rd H a (.lst xs) ∨
  ∃ (o:Obj) (its:Array Value) (n:Nat),K.lookup a=some o∧o.cls = .type "list"∧o.dict=none∧o.data = .seq its n∧its.size≤yaW∧Vals xs its.toList
def SqT (K:PySem.W.Frag) (H:Hp) (a:Addr) (xs:List V):Prop :=
 Rd H a (.tup xs) ∨
  ∃ (o:Obj) (its:Array Value) (n:Nat),K.lookup a=some o∧o.cls = .type "tuple"∧o.data = .seq its n∧its.size≤yaW∧Vals xs its.toList
def absV:Value→Option V
 | .none=>some .non
 | .bool b=>some (.bl b)
 | .int i _=>some (.int i)
 | .str x _=>some (.str x)
 | .bytes b _=>some (.byt b)
 | .float b _=>some (.flt b)
 | .ref a=>some (.ref a)
 | .type n=>some (.ty n)
 | _=>none
theorem RelV.abs {x:V} {u:Value} (r:RelV x u):absV u=some x:=by
 cases x with
 | non=>cases r;rfl
 | bl _=>cases r;rfl
 | int _=>obtain ⟨t,rfl⟩:=r;rfl
 | str _=>obtain ⟨t,rfl⟩:=r;rfl
 | byt _=>obtain ⟨t,rfl⟩:=r;rfl
 | flt _=>obtain ⟨t,rfl⟩:=r;rfl
 | ref _=>cases r;rfl
 | ty _=>cases r;rfl
theorem RelV.inj {x y:V} {u:Value} (r:RelV x u) (q:RelV y u):x=y:=yas (r.abs.symm.trans q.abs)
theorem Vals.inj:∀ {xs ys:List V} {us:List Value},Vals xs us→Vals ys us→xs=ys
 | _,_,_,.nil,.nil=>rfl
 | _,_,_,.cons r t,.cons r' t'=>by rw [r.inj r',Vals.inj t t']
section
variable {X:Cx} {pins:List (Addr×Obj)} {σ:St} {H:Hp} {s:Shared} {a:Addr} {xs ys:List V}
theorem SqL.of {K:PySem.W.Frag} (h:H a=some (.lst xs)):SqL K H a xs := .inl (.inl h)
theorem SqT.of {K:PySem.W.Frag} (h:H a=some (.tup xs)):SqT K H a xs := .inl (.inl h)
theorem Inv.list (I:Inv X pins σ H s) (h:SqL X.K H a xs):∃ its:List Value,Vals xs its∧PlainL s.heap a its.toArray∧xs.length≤yaW:=by
 rcases h with h | ⟨o,its,n,hk,hc,hd,hs,hz,r⟩
 ·obtain ⟨z,its,n,r,e⟩:=h.ok I.hok
  exact ⟨its,r,⟨_,n,e,rfl,rfl,rfl⟩,z⟩
 ·refine ⟨its.toList,r,⟨o,n,I.kIn a o hk,hc,hd,by simpa using hs⟩,?_⟩
  have e:=r.length
  simp only [yaO] at e
  omega
theorem Inv.tuple (I:Inv X pins σ H s) (h:SqT X.K H a xs):∃ its:List Value,Vals xs its∧IsTup s.heap a its.toArray∧xs.length≤yaW:=by
 rcases h with h | ⟨o,its,n,hk,hc,hs,hz,r⟩
 ·obtain ⟨z,its,r,p⟩:=h.ok I.hok
  exact ⟨its,r,p,z⟩
 ·refine ⟨its.toList,r,⟨o,I.kIn a o hk,hc,n,by simpa using hs⟩,?_⟩
  have e:=r.length
  simp only [yaO] at e
  omega
theorem Inv.list_inj (I:Inv X pins σ H s) (h:SqL X.K H a xs) (h':SqL X.K H a ys):xs=ys:=by
 obtain ⟨its,r,⟨o,n,e,_,_,d⟩,_⟩:=I.list h
 obtain ⟨its',r',⟨o',n',e',_,_,d'⟩,_⟩:=I.list h'
 rw [e] at e';cases e'
 rw [d] at d'
 injection d' with d1 _
 have:its=its':=by simpa using congrArg Array.toList d1
 subst this
 exact r.inj r'
theorem Inv.tuple_inj (I:Inv X pins σ H s) (h:SqT X.K H a xs) (h':SqT X.K H a ys):xs=ys:=by
 obtain ⟨its,r,⟨o,e,_,n,d⟩,_⟩:=I.tuple h
 obtain ⟨its',r',⟨o',e',_,n',d'⟩,_⟩:=I.tuple h'
 rw [e] at e';cases e'
 rw [d] at d'
 injection d' with d1 _
 have:its=its':=by simpa using congrArg Array.toList d1
 subst this
 exact r.inj r'
end
abbrev Cx.wish (X:Cx) (E:Value→Shared→Prop):Cx:={ X with xe:=E }
abbrev Cx.nox (X:Cx):Cx:=X.wish fun _ _=>False
theorem Cx.Ok.wish {X:Cx} (ok:X.Ok) (E:Value→Shared→Prop):(X.wish E).Ok :=
 ⟨ok.mod,ok.kind,ok.glob,ok.blt,ok.above,ok.inj,ok.has,ok.cab,ok.hd,ok.frames,ok.stk,ok.exf,ok.bs,ok.bsz,ok.noex,ok.exfs,ok.funs,ok.frf⟩
theorem Cx.Ok.unwish {X:Cx} {E:Value→Shared→Prop} (ok:(X.wish E).Ok):X.Ok :=
 ⟨ok.mod,ok.kind,ok.glob,ok.blt,ok.above,ok.inj,ok.has,ok.cab,ok.hd,ok.frames,ok.stk,ok.exf,ok.bs,ok.bsz,ok.noex,ok.exfs,ok.funs,ok.frf⟩
section
variable {X:Cx} {pins:List (Addr×Obj)} {σ:St} {H:Hp} {s:Shared} {E:Value→Shared→Prop}
theorem Inv.wish (I:Inv X pins σ H s) (E:Value→Shared→Prop):Inv (X.wish E) pins σ H s:=⟨I.ok.wish E,I.os,I.bare,I.base,I.loc,I.cell,I.free,I.freeC,I.pin,I.hok,I.len⟩
theorem Inv.unwish (I:Inv (X.wish E) pins σ H s):Inv X pins σ H s:=⟨I.ok.unwish,I.os,I.bare,I.base,I.loc,I.cell,I.free,I.freeC,I.pin,I.hok,I.len⟩
theorem SP.unwish {D:Ends} {f:Flow} {s':Shared} (h:SP (X.wish E) pins D f s'):SP X pins D f s':=by
 cases f with
 | next=>obtain ⟨σ',H',I,q⟩:=h;exact ⟨σ',H',I.unwish,q⟩
 | brk=>obtain ⟨σ',H',I,q⟩:=h;exact ⟨σ',H',I.unwish,q⟩
 | cont=>obtain ⟨σ',H',I,q⟩:=h;exact ⟨σ',H',I.unwish,q⟩
 | ret u=>obtain ⟨v,σ',H',I,r,q⟩:=h;exact ⟨v,σ',H',I.unwish,r,q⟩
theorem PSs.nox {st:List Stmt} {t:TS} (h:PSs X.nox st t):PSs X st t:=fun pins s σ H D I hw =>
 ycb (h pins s σ H D (I.wish _) hw) (fun _ _ q=>q.unwish) fun _ _ z=>ycO z
end
section
variable {X:Cx} {st:Stmt} {rest:List Stmt} {t u:TS} {e:Expr} {te:TE} {pos:Pos}
def tNext:TS:=fun D σ H=>D.nx σ H
def tSeq (t u:TS):TS:=fun D σ H=>t { D with nx:=u D } σ H
theorem zau:PSs X [] tNext:=fun _ _ σ H _ I h=>wpAny_execs_nil ⟨σ,H,I,h⟩
theorem zae (h1:PS X st t) (h2:PSs X rest u):PSs X (st :: rest) (tSeq t u):=by
 intro pins s σ H D I h
 refine wpAny_execs_cons (thn (h1 pins s σ H { D with nx:=u D } I h) fun f s1 q => ?_)
 cases f with
 | next =>
  obtain ⟨σ',H',I',q⟩:=q
  exact h2 pins s1 σ' H' D I' q
 | ret v=>exact q
 | brk=>exact q
 | cont=>exact q
theorem zah (h1:PS X st t):PSs X [st] t:=by
 intro pins s σ H D I h
 refine wpAny_execs_cons (thn (h1 pins s σ H D I h) fun f s1 q => ?_)
 cases f with
 | next=>exact wpAny_execs_nil q
 | ret v=>exact q
 | brk=>exact q
 | cont=>exact q
theorem Inv.quiet {pins:List (Addr×Obj)} {σ:St} {H:Hp} {s:Shared} (I:Inv X pins σ H s):interactive X.env=false:=by simp [interactive,I.ok.kind]
def tDrop (te:TE):TS:=fun D σ H=>te σ H fun _ H1=>D.nx σ H1
theorem zbp (he:PE X e te) (hs:swapsWith e none pos.line X.env=pure false:=by rfl):PS X (.Expr e pos) (tDrop te):=by
 intro pins s σ H D I h
 exact wpAny_Expr_any (thn (he pins s σ H _ I h) (by rintro v s1 ⟨x,H1,I1,r1,q1⟩;exact ⟨σ,H1,I1,q1⟩)) I.quiet hs
def tRet (te:TE):TS:=fun D σ H=>te σ H D.rt
theorem zao (he:PE X e te):PS X (.Return (some e) pos) (tRet te):=by
 intro pins s σ H D I h
 exact wpAny_Return_some (thn (he pins s σ H _ I h) (by rintro v s1 ⟨x,H1,I1,r1,q1⟩;exact ⟨x,σ,H1,I1,r1,q1⟩))
def tIfS (c:TT) (t u:TS):TS:=fun D σ H=>c σ H fun b H1=>if b=true then t D σ H1 else u D σ H1
theorem ps_if {c:Expr} {a b:List Stmt} {tc:TT} (hc:PT X c tc) (ha:PSs X a t) (hb:PSs X b u):PS X (.If c a b pos) (tIfS tc t u):=by
 intro pins s σ H D I h
 refine wpAny_If (thn (hc pins s σ H _ I h) fun d s1 ho_ => ?_)
 obtain ⟨H1,I1,q1⟩:=ho_
 cases d with
 | true=>exact ha pins s1 σ H1 D I1 q1
 | false=>exact hb pins s1 σ H1 D I1 q1
def tNever:TS:=fun _ _ _=>False
theorem zci:PS X st tNever:=fun _ _ _ _ _ _ h=>h.elim
end
abbrev TG:=V→St→Hp→(St→Hp→Prop)→Prop
abbrev TGs:=List V→St→Hp→(St→Hp→Prop)→Prop
def PG (X:Cx) (target:Expr) (t:TG):Prop :=
 ∀ (pins:List (Addr×Obj)) (s:Shared) (σ:St) (H:Hp) (v:V) (u:Value) (Q:St→Hp→Prop),Inv X pins σ H s→RelV v u→t v σ H Q →
  wpAny (model X.prog X.w) X.A (assign target X.env u) (fun _ s'=>∃ σ' H',Inv X pins σ' H' s'∧Q σ' H') X.xe s
def PGs (X:Cx) (ts:List Expr) (t:TGs):Prop :=
 ∀ (pins:List (Addr×Obj)) (s:Shared) (σ:St) (H:Hp) (vs:List V) (us:List Value) (Q:St→Hp→Prop),Inv X pins σ H s→Vals vs us→t vs σ H Q →
  wpAny (model X.prog X.w) X.A (assignInOrder ((yea ts X.env).map (·.2)) us) (fun _ s'=>∃ σ' H',Inv X pins σ' H' s'∧Q σ' H') X.xe s
abbrev TSet:=V→V→V→Hp→(Hp→Prop)→Prop
def PSet (X:Cx) (t:TSet):Prop :=
 ∀ (pins:List (Addr×Obj)) (s:Shared) (σ:St) (H:Hp) (o i v:V) (ov iv u:Value) (Q:Hp→Prop),Inv X pins σ H s→RelV o ov→RelV i iv→RelV v u→t o i v H Q →
  wpAny (model X.prog X.w) X.A (setItem ov iv u) (fun _ s'=>∃ H',Inv X pins σ H' s'∧Q H') X.xe s
section
variable {X:Cx} {pos:Pos}
def gName (i:Nat):TG:=fun v σ H Q=>Q (σ.set i (some v)) H
theorem zal {i:Nat} {x:Str} (hN:X.N.Nodup) (hi:X.N[i]? = some x) (hx:Loc X.env.scope x) (hf:X.fn x=true∨X.env.scope.names.lookup x=some .local:=by first | exact .inl rfl | exact .inr rfl | assumption):PG X (.Name x pos) (gName i):=by
 intro pins s σ H v u Q I r h
 exact wpAny_assign_Name (zja I hN hi hx r (fun s' I'=>⟨_,H,I',h⟩) hf)
def gNil:TGs:=fun vs σ H Q=>vs = []∧Q σ H
def gCons (t:TG) (u:TGs):TGs:=fun vs σ H Q=>∃ v r,vs=v :: r∧t v σ H fun σ' H'=>u r σ' H' Q
theorem zbM:PGs X [] gNil:=by
 intro pins s σ H vs us Q I r h
 obtain ⟨e,h⟩:=h
 subst e
 cases r
 exact assignInOrder_nil ⟨σ,H,I,h⟩
theorem zaC {e:Expr} {es:List Expr} {t:TG} {u:TGs} (h1:PG X e t) (h2:PGs X es u)
  (hs:(yea (e :: es) X.env).map (·.2)=assign e X.env :: (yea es X.env).map (·.2):=by rfl):PGs X (e :: es) (gCons t u):=by
 intro pins s σ H vs us Q I r h
 obtain ⟨v,vr,e1,h⟩:=h
 subst e1
 cases r with
 | cons r rr =>
  rw [hs]
  refine assignInOrder_cons (thn (h1 pins s σ H _ _ _ I r h) fun _ s1 ho_ => ?_)
  obtain ⟨σ1,H1,I1,q1⟩:=ho_
  exact h2 pins s1 σ1 H1 _ _ Q I1 rr q1
def gTup (K:PySem.W.Frag) (n:Nat) (t:TGs):TG:=fun v σ H Q=>∃ a xs,v = .ref a∧SqT K H a xs∧xs.length=n∧t xs σ H Q
theorem pg_tup {es:List Expr} {k:Nat} {t:TGs} {n:Nat} (hc:X.calm=true) (h:PGs X es t)
  (hn:(yea es X.env).length=n:=by rfl) (hst:(yea es X.env).findIdx? (·.1)=none:=by rfl):PG X (.Tuple es k pos) (gTup X.K n t):=by
 intro pins s σ H v u Q I r hw
 obtain ⟨a,xs,e1,hq,hl,hw⟩:=hw
 subst e1
 cases r
 obtain ⟨its,rv,ht,hz⟩:=I.tuple hq
 refine assign_Tuple_tuple (I.ok.hd hc) ht (by simp [hn,← hl,rv.length]) hst fun h' hx => ?_
 have I1:Inv X pins σ H { s with heap:=h' }:=I.kept (t':=s.toks) fun b o e=>hx b o (yaF (yak e)) e
 exact h pins _ σ H xs _ Q I1 (by simpa using rv) hw
def gSub (to ti:TE) (t:TSet):TG:=fun v σ H Q=>to σ H fun o H1=>ti σ H1 fun i H2=>t o i v H2 fun H3=>Q σ H3
theorem pg_sub {o i:Expr} {to ti:TE} {t:TSet} (ho:PE X o to) (hi:PE X i ti) (hs:PSet X t)
  (ha:∀ v,assign (.Subscript o i pos) X.env v=(do
   let ov ← holding [v] (eval o X.env)
   let iv ← holding [v,ov] (eval i X.env)
   standAt pos
   holding [v,ov,iv] (setItem ov iv v)
   release [v,ov,iv] []):=by intro _;rfl):PG X (.Subscript o i pos) (gSub to ti t):=by
 intro pins s σ H v u Q I r h
 rw [ha]
 refine yac (ya9 (thn (ho pins s σ H _ I h) fun ov s1 ho_ => ?_))
 obtain ⟨x,H1,I1,r1,q1⟩:=ho_
 refine yac (ya9 (thn (hi pins s1 σ H1 _ I1 q1) fun iv s2 ho_ => ?_))
 obtain ⟨y,H2,I2,r2,q2⟩:=ho_
 refine yac (wpAny_standAt (yac (ya9 (thn (hs pins s2 σ H2 x y v ov iv u _ I2 r1 r2 r q2) fun _ s3 ho_ => ?_))))
 obtain ⟨H3,I3,q3⟩:=ho_
 exact wpAny_release ⟨σ,H3,I3,q3⟩
def tAsg (te:TE) (g:TG):TS:=fun D σ H=>te σ H fun x H1=>g x σ H1 D.nx
theorem ps_asg {tg e:Expr} {te:TE} {g:TG} (he:PE X e te) (hg:PG X tg g) (hs:swapsWithSole [tg] e pos.line X.env=pure false:=by rfl) (hw:swappedStores [tg] e X.env=pure none:=by rfl)
  (h1:(yea [tg] X.env).map (·.2) = [assign tg X.env]:=by rfl):PS X (.Assign [tg] e pos) (tAsg te g):=by
 intro pins s σ H D I h
 refine wpAny_Assign_stores (thn (he pins s σ H _ I h) fun v s1 ho_ => ?_) hs hw
 obtain ⟨x,H1,I1,r1,q1⟩:=ho_
 rw [h1]
 exact thn (hg pins s1 σ H1 x v _ I1 r1 q1) fun _ s2 q=>q
theorem zat {i:Nat} {x:Str} {e:Expr} {te:TE} {pos':Pos} (hN:X.N.Nodup) (hi:X.N[i]? = some x) (hx:Loc X.env.scope x) (he:PE X e te) (hs:swapsWith e (some (.Name x pos')) pos.line X.env=pure false:=by rfl) (hf:X.fn x=true∨X.env.scope.names.lookup x=some .local:=by first | exact .inl rfl | exact .inr rfl | assumption) :
  PS X (.Assign [.Name x pos'] e pos) (tAsg te (gName i)):=by
 intro pins s σ H D I h
 refine wpAny_Assign_Name (thn (he pins s σ H _ I h) fun v s1 ho_ => ?_) hs
 obtain ⟨y,H1,I1,r1,q1⟩:=ho_
 exact zja I1 hN hi hx r1 (fun s2 I2=>⟨_,H1,I2,q1⟩) hf
end
section
variable {X:Cx} {pos:Pos}
end
structure It where
 go:Nat→Hp→Prop
 yld:Nat→Hp→V→Hp→Prop
 stop:Nat→Hp→Prop
def FpOk (X:Cx) (pins:List (Addr×Obj)) (H:Hp) (b:Addr):Prop :=
 H b=none∧b≠X.env.locals∧b∉X.fs∧(b∈X.ex∨X.s₀.heap.objs.size≤b)∧(∀ x c,X.env.cells.lookup x=some c→c≠b)∧∀ p∈X.pn++pins,p.1≠b
theorem Inv.fpOk {X:Cx} {pins:List (Addr×Obj)} {σ:St} {H H':Hp} {s:Shared} {b:Addr} (I:Inv X pins σ H s) (hb:s.heap.objs.size≤b) (hn:H' b=none):FpOk X pins H' b:=by
 refine ⟨hn,ycc (yaT I.lt hb),I.nofs hb,.inr (ya1 I.sz hb),fun x c e z => ?_,fun p hp z => ?_⟩
 ·obtain ⟨v,q⟩:=I.cell x c e
  exact absurd (yaT q.lt (by rw [z];exact hb)) (ycQ _)
 ·exact absurd (yaT (yak (I.pin p hp).1) (by rw [z];exact hb)) (ycQ _)
structure Turn (P:Program) (w:World) (K:PySem.W.Frag) (tg:Expr) (J:It) (fp:List Addr) (it:Addr) (tn:Nat→Heap→Prop):Prop where
 mem:it∈fp
 obj:∀ i h,tn i h→∀ b∈fp,∃ o,h.get? b=some o∧∀ v,o.data ≠ .cell v
 keep:∀ i h h',tn i h→(∀ b∈fp,∀ o,h.get? b=some o→h'.get? b=some o)→tn i h'
 item:∀ (X:Cx),X.prog=P→X.w=w→X.K=K→X.calm=true→∀ (i:Nat) (pins:List (Addr×Obj)) (s:Shared) (σ:St) (H:Hp) (E:Value→Shared→Prop),Inv X pins σ H s→(∀ b∈fp,FpOk X pins H b)→tn i s.heap→J.go i H →
  wpAny (model P w) X.A (yfb (.ref it)) (fun r s1=>∃ u,r=some u ∧
   wpAny (model P w) X.A (yeR tg (.ref it) u) (fun _ s2=>∃ x H',Inv X pins σ H' s2∧RelV x u∧J.yld i H x H'∧tn (i+1) s2.heap∧∀ b∈fp,H' b=none) E s1) E s
 done:∀ (X:Cx),X.prog=P→X.w=w→X.K=K→X.calm=true→∀ (i:Nat) (pins:List (Addr×Obj)) (s:Shared) (σ:St) (H:Hp) (E:Value→Shared→Prop),Inv X pins σ H s→(∀ b∈fp,FpOk X pins H b)→tn i s.heap→J.stop i H →
  wpAny (model P w) X.A (yfb (.ref it)) (fun r s1=>r=none∧Inv X pins σ H s1) E s
 self:∀ (A:Around) (i:Nat) (s:Shared) (Q:Value→Shared→Prop) (E:Value→Shared→Prop),tn i s.heap→Q (.ref it) s→wpAny (model P w) A (pyIter (.ref it)) Q E s
abbrev TI:=St→Hp→(It→Hp→Prop)→Prop
def PIE (X:Cx) (pins:List (Addr×Obj)) (σ:St) (tg:Expr) (R:It→Hp→Prop) (itv:Value) (s2:Shared):Prop :=
 ∃ (it:Addr) (fp:List Addr) (tn:Nat→Heap→Prop) (J:It) (H':Hp),itv = .ref it∧Inv X pins σ H' s2∧Turn X.prog X.w X.K tg J fp it tn∧tn 0 s2.heap∧(∀ b∈fp,FpOk X pins H' b)∧R J H'
def PI (X:Cx) (tg iter:Expr) (wi:TI):Prop :=
 ∀ (pins:List (Addr×Obj)) (s:Shared) (σ:St) (H:Hp) (R:It→Hp→Prop),Inv X pins σ H s→wi σ H R →
  wpAny (model X.prog X.w) X.A (eval iter X.env) (fun v s1=>wpAny (model X.prog X.w) X.A (pyIter v) (PIE X pins σ tg R) X.xe s1) X.xe s
theorem go_of {M:Model} {A:Around} {E:Value→Shared→Prop} {s:Shared} {tg:Expr} {it:Addr} {u:Value} {o:Obj} {n:String} {vs:Array Value} {Q:Unit→Shared→Prop} (ho:s.heap.get? it=some o) (hc:o.cls = .type n) (hd:o.data = .fields vs)
  (hn : ["enumerate", "zip", "dict_itemiterator", "dict_reverseitemiterator", "odict_iterator", "itertools.zip_longest", "itertools.pairwise"].contains n=false) (hQ:Q () s):wpAny M A (yeR tg (.ref it) u) Q E s:=by
 unfold yeR
 cases tg <;> first
  | exact yaf hQ
  | (cases u <;> first
    | exact yaf hQ
    | (refine yac (yeN ho ?_)
       rw [hc,hd]
       show wpAny M A (if (["enumerate", "zip", "dict_itemiterator", "dict_reverseitemiterator", "odict_iterator", "itertools.zip_longest", "itertools.pairwise"].contains n&&vs[0]? == some (rawInt _))=true then _ else _) Q E s
       rw [if_neg (by intro h;rw [hn,ycD] at h;cases h)]
       exact yaf hQ))
def Itl (K:PySem.W.Frag) (a:Addr):It :=
 ⟨fun i H=>∃ xs x,SqL K H a xs∧xs[i]? = some x,fun i H x H'=>H'=H∧∀ xs,SqL K H a xs→xs[i]? = some x,fun i H=>∃ xs,SqL K H a xs∧xs.length≤i⟩
def Itt (K:PySem.W.Frag) (a:Addr):It :=
 ⟨fun i H=>∃ xs x,SqT K H a xs∧xs[i]? = some x,fun i H x H'=>H'=H∧∀ xs,SqT K H a xs→xs[i]? = some x,fun i H=>∃ xs,SqT K H a xs∧xs.length≤i⟩
def Itr (lo:Int) (n:Nat):It:=⟨fun i _=>i < n,fun i H x H'=>H'=H∧x = .int (lo+i),fun i _=>n≤i⟩
theorem turn_list {P:Program} {w:World} {K:PySem.W.Frag} {tg:Expr} (a it:Addr):Turn P w K tg (Itl K a) [it] it (fun i h=>h.IsListIter it a i) where
 mem:=by simp
 obj:=fun i h st b hb=>by
  have e:b=it:=by simpa using hb
  subst e
  obtain ⟨o,e,c,d⟩:=st
  exact ⟨o,e,fun v z=>by rw [d] at z;cases z⟩
 keep:=fun i h h' st k=>st.at fun o e=>k it (by simp) o e
 item:=by
  intro X hP hw hK hc i pins s σ H E I hf st hg
  subst hP hw hK
  obtain ⟨xs,x,hq,hx⟩:=hg
  obtain ⟨its,rv,p,hz⟩:=I.list hq
  obtain ⟨u,hu,ru⟩:=rv.get hx
  obtain ⟨f0,f1,f2,f3,f4,f5⟩:=hf it (by simp)
  refine wpAny_pyNext_list_item st p.isList (x:=u) (by simpa using hu) fun h' st' sb => ?_
  have I1:Inv X pins σ H { s with heap:=h' }:=I.turned (t':=s.toks) (fun b o hb e=>(sb.2 b hb).trans e) f0 f1 f3 f4 f5
  obtain ⟨o,e,c,d⟩:=id st'
  exact ⟨u,rfl,go_of (s:={ s with heap:=h' }) e c d (by decide) ⟨x,H,I1,ru,⟨rfl,fun ys hy=>by rw [I.list_inj hy hq];exact hx⟩,st',fun b hb=>(hf b hb).1⟩⟩
 done:=by
  intro X hP hw hK hc i pins s σ H E I hf st hg
  subst hP hw hK
  obtain ⟨xs,hq,hx⟩:=hg
  obtain ⟨its,rv,p,hz⟩:=I.list hq
  obtain ⟨f0,f1,f2,f3,f4,f5⟩:=hf it (by simp)
  have hl:=rv.length
  exact wpAny_pyNext_list_end (I.ok.hd hc) st p.isList (by simp;omega) fun h' eb=>⟨rfl,I.turned (t':=s.toks) (fun b o hb e=>eb b o hb e) f0 f1 f3 f4 f5⟩
 self:=fun _ _ _ _ _ st h=>wpAny_pyIter_listiter st h
theorem zj3 {P:Program} {w:World} {K:PySem.W.Frag} {tg:Expr} (a it:Addr):Turn P w K tg (Itt K a) [it] it (fun i h=>h.IsTupleIter it a i) where
 mem:=by simp
 obj:=fun i h st b hb=>by
  have e:b=it:=by simpa using hb
  subst e
  obtain ⟨o,e,c,d⟩:=st
  exact ⟨o,e,fun v z=>by rw [d] at z;cases z⟩
 keep:=fun i h h' st k=>st.at fun o e=>k it (by simp) o e
 item:=by
  intro X hP hw hK hc i pins s σ H E I hf st hg
  subst hP hw hK
  obtain ⟨xs,x,hq,hx⟩:=hg
  obtain ⟨its,rv,p,hz⟩:=I.tuple hq
  obtain ⟨u,hu,ru⟩:=rv.get hx
  obtain ⟨f0,f1,f2,f3,f4,f5⟩:=hf it (by simp)
  refine wpAny_pyNext_tuple_item st (show s.heap.IsTuple a its.toArray from p) (x:=u) (by simpa using hu) fun h' st' sb => ?_
  have I1:Inv X pins σ H { s with heap:=h' }:=I.turned (t':=s.toks) (fun b o hb e=>(sb.2 b hb).trans e) f0 f1 f3 f4 f5
  obtain ⟨o,e,c,d⟩:=id st'
  exact ⟨u,rfl,go_of (s:={ s with heap:=h' }) e c d (by decide) ⟨x,H,I1,ru,⟨rfl,fun ys hy=>by rw [I.tuple_inj hy hq];exact hx⟩,st',fun b hb=>(hf b hb).1⟩⟩
 done:=by
  intro X hP hw hK hc i pins s σ H E I hf st hg
  subst hP hw hK
  obtain ⟨xs,hq,hx⟩:=hg
  obtain ⟨its,rv,p,hz⟩:=I.tuple hq
  obtain ⟨f0,f1,f2,f3,f4,f5⟩:=hf it (by simp)
  have hl:=rv.length
  exact wpAny_pyNext_tuple_end (I.ok.hd hc) st (show s.heap.IsTuple a its.toArray from p) (by simp;omega) fun h' eb=>⟨rfl,I.turned (t':=s.toks) (fun b o hb e=>eb b o hb e) f0 f1 f3 f4 f5⟩
 self:=fun _ _ _ _ _ st h=>wpAny_pyIter_tupleiter st h
theorem zjz {P:Program} {w:World} {K:PySem.W.Frag} {tg:Expr} (it:Addr) (lo:Int) (n:Nat):Turn P w K tg (Itr lo n) [it] it (fun i h=>IsRangeIter h it (lo+(i:Nat)*1) ((n:Int) - (i:Nat)) 1) where
 mem:=by simp
 obj:=fun i h st b hb=>by
  have e:b=it:=by simpa using hb
  subst e
  exact ⟨_,st,fun v z=>by
   have z':Data.fields _=Data.cell v:=z
   cases z'⟩
 keep:=fun i h h' st k=>k it (by simp) _ st
 item:=by
  intro X hP hw hK hc i pins s σ H E I hf st hg
  subst hP hw hK
  obtain ⟨f0,f1,f2,f3,f4,f5⟩:=hf it (by simp)
  have W:=Walks.range (prog:=X.prog) (w:=X.w) (I.ok.hd hc) it lo 1 n
  refine W.item i s _ _ hg st fun v h' tk hv st' kk => ?_
  obtain ⟨t,rfl⟩:=hv
  have I1:Inv X pins σ H { s with heap:=h',toks:=tk }:=I.turned (fun b o hb e=>kk b o (by simpa using hb) e) f0 f1 f3 f4 f5
  refine ⟨_,rfl,go_of (s:={ s with heap:=h',toks:=tk }) (n := "range_iterator") st' rfl rfl (by decide) ⟨.int (lo+i),H,I1,⟨t,?_⟩,⟨rfl,rfl⟩,st',fun b hb=>(hf b hb).1⟩⟩
  rw [Int.mul_one]
 done:=by
  intro X hP hw hK hc i pins s σ H E I hf st hg
  subst hP hw hK
  obtain ⟨f0,f1,f2,f3,f4,f5⟩:=hf it (by simp)
  exact wpAny_pyNext_range_end (I.ok.hd hc) st (by have:n≤i:=hg;omega) fun h' eb=>⟨rfl,I.turned (t':=s.toks) (fun b o hb e=>eb b o hb e) f0 f1 f3 f4 f5⟩
 self:=fun _ _ _ _ _ st h=>wpAny_pyIter_rangeiter st h
section
variable {X:Cx} {tg:Expr}
def iList (K:PySem.W.Frag) (tl:TE):TI:=fun σ H R=>tl σ H fun x H1=>∃ a,x = .ref a∧(∃ xs,SqL K H1 a xs)∧R (Itl K a) H1
def iTup (K:PySem.W.Frag) (tl:TE):TI:=fun σ H R=>tl σ H fun x H1=>∃ a,x = .ref a∧(∃ xs,SqT K H1 a xs)∧R (Itt K a) H1
theorem pi_list {l:Expr} {tl:TE} (hl:PE X l tl):PI X tg l (iList X.K tl):=by
 intro pins s σ H R I h
 refine thn (hl pins s σ H _ I h) fun v s1 ho_ => ?_
 obtain ⟨x,H1,I1,r1,q1⟩:=ho_
 obtain ⟨a,e,⟨xs,hq⟩,q⟩:=q1
 subst e
 cases r1
 obtain ⟨its,rv,p,hz⟩:=I1.list hq
 refine ycI p.isList ?_
 refine ⟨s1.heap.objs.size,[s1.heap.objs.size],_,_,H1,rfl,I1.kept (t':=s1.toks) fun b o e=>yad _ e,turn_list a _,⟨_,yai _ rfl,rfl,rfl⟩,fun b hb => ?_,q⟩
 have e:b=s1.heap.objs.size:=by simpa using hb
 subst e
 exact I1.fpOk (yag _) (I1.hok.fresh (yag _))
theorem pi_tup {l:Expr} {tl:TE} (hl:PE X l tl):PI X tg l (iTup X.K tl):=by
 intro pins s σ H R I h
 refine thn (hl pins s σ H _ I h) fun v s1 ho_ => ?_
 obtain ⟨x,H1,I1,r1,q1⟩:=ho_
 obtain ⟨a,e,⟨xs,hq⟩,q⟩:=q1
 subst e
 cases r1
 obtain ⟨its,rv,p,hz⟩:=I1.tuple hq
 refine yfc (show s1.heap.IsTuple a its.toArray from p) ?_
 refine ⟨s1.heap.objs.size,[s1.heap.objs.size],_,_,H1,rfl,I1.kept (t':=s1.toks) fun b o e=>yad _ e,zj3 a _,⟨_,yai _ rfl,rfl,rfl⟩,fun b hb => ?_,q⟩
 have e:b=s1.heap.objs.size:=by simpa using hb
 subst e
 exact I1.fpOk (yag _) (I1.hok.fresh (yag _))
theorem range_it {pins:List (Addr×Obj)} {σ:St} {H:Hp} {s:Shared} {R:It→Hp→Prop} {E:Value→Shared→Prop} {lo hi:Int} {t u v:Tok} {tk:Nat} (I:Inv X pins σ H s) (h1 : -(2 ^ 62)≤lo) (h2:lo < 2 ^ 62) (h3 : -(2 ^ 62)≤hi) (h4:hi < 2 ^ 62)
  (q:R (Itr lo (hi - lo).toNat) H):wpAny (model X.prog X.w) X.A (pyIter (.ref s.heap.objs.size)) (PIE X pins σ tg R) E { s with heap:=s.heap.push { cls := .type "range",data := .fields #[.int lo t,.int hi u,.int 1 v] },toks:=tk }:=by
 refine wpAny_pyIter_range (IsRange.new ..) (small_one h1 h2 h3 h4) ?_
 have I1:Inv X pins σ H { s with heap:=s.heap.push { cls := .type "range",data := .fields #[.int lo t,.int hi u,.int 1 v] },toks:=tk }:=I.kept fun b o e=>yad _ e
 refine ⟨(s.heap.push { cls := .type "range",data := .fields #[.int lo t,.int hi u,.int 1 v] }).objs.size,[(s.heap.push { cls := .type "range",data := .fields #[.int lo t,.int hi u,.int 1 v] }).objs.size],_,_,H,rfl,
  I1.kept (t':=tk) fun b o e=>yad _ e,zjz _ lo (hi - lo).toNat,?_,fun b hb => ?_,q⟩
 ·have e1:lo+((0:Nat):Int)*1=lo:=by simp
  have e2:(((hi - lo).toNat:Nat):Int) - ((0:Nat):Int)=Builtin.Range.rangeSize lo hi 1:=by rw [rangeSize_one];split <;> omega
  show IsRangeIter _ _ (lo+((0:Nat):Int)*1) ((((hi - lo).toNat:Nat):Int) - ((0:Nat):Int)) 1
  rw [e1,e2]
  exact yai _ rfl
 ·have e:b=(s.heap.push { cls := .type "range",data := .fields #[.int lo t,.int hi u,.int 1 v] }).objs.size:=by simpa using hb
  subst e
  exact I1.fpOk (yag _) (I1.hok.fresh (yag _))
def iRng1 (ta:TA):TI:=fun σ H R=>ta σ H fun vs H1=>∃ j:Int,vs = [.int j] ∧ -(2 ^ 62)≤j∧j < 2 ^ 62∧R (Itr 0 j.toNat) H1
theorem zcI {a:Expr} {ta:TA} {p pos:Pos} (hg:Gl X "range") (hm:X.mg "range" = none) (ha:PA X [a] ta) (hs:ya6 [a] X.env = [(false,eval a X.env)]:=by rfl):PI X tg (.Call (.Name "range" p) [a] [] pos) (iRng1 ta):=by
 intro pins s σ H R I h
 refine Call_ (zfK I hg hm boot_range (ycK (thn (ha pos pins s σ H _ I h) fun us s1 ho_ => ?_) hs rfl))
 obtain ⟨vs,H1,I1,r1,q1⟩:=ho_
 obtain ⟨j,e,q1,q2,q⟩:=q1
 subst e
 cases r1 with
 | cons r rr =>
  cases rr
  obtain ⟨t,rfl⟩:=r
  exact call_range_1 (range_it I1 (by omega) (by omega) q1 q2 (by simpa using q))
def tFor (wi:TI) (g:TG) (tb:TS):TS:=fun D σ H=>wi σ H fun J H1=>∃ W:Nat→Nat→St→Hp→Prop,(∃ m,W 0 m σ H1)∧∀ i m σ H,W i m σ H →
 (J.stop i H∧D.nx σ H)∨(J.go i H∧∃ N:St→Hp→Prop,(∀ σ' H',N σ' H'→∃ m',m' < m∧W (i+1) m' σ' H')∧∀ x H',J.yld i H x H'→g x σ H' fun σ2 H2=>tb { D with nx:=N,ct:=N,bk:=D.nx } σ2 H2)
def zgx (fp:List Addr) (h:Heap):List (Addr×Obj):=fp.filterMap fun b=>(h.get? b).map fun o=>(b,o)
theorem zc9 {fp:List Addr} {h:Heap} {b:Addr} {o:Obj} (hb:b∈fp) (e:h.get? b=some o):(b,o)∈zgx fp h:=List.mem_filterMap.mpr ⟨b,hb,by rw [e];rfl⟩
theorem of_pinsAt {fp:List Addr} {h:Heap} {p:Addr×Obj} (hp:p∈zgx fp h):p.1∈fp∧h.get? p.1=some p.2:=by
 obtain ⟨b,hb,e⟩:=List.mem_filterMap.mp hp
 cases q:h.get? b with
 | none=>rw [q] at e;cases e
 | some o =>
  rw [q] at e
  have e':(b,o)=p:=yas e
  subst e'
  exact ⟨hb,q⟩
theorem Inv.pinned {pins:List (Addr×Obj)} {σ:St} {H:Hp} {s:Shared} {fp:List Addr} (I:Inv X pins σ H s) (hf:∀ b∈fp,FpOk X pins H b) (ho:∀ b∈fp,∃ o,s.heap.get? b=some o∧∀ v,o.data ≠ .cell v):Inv X (pins++zgx fp s.heap) σ H s :=
 I.pins_of fun p hp=>(ybn.mp hp).elim (fun z=>I.pin p (ybp _ z)) fun z=>by
  obtain ⟨hb,e⟩:=of_pinsAt z
  obtain ⟨f0,f1,f2,_⟩:=hf p.1 hb
  obtain ⟨o,e',d⟩:=ho p.1 hb
  rw [e] at e';cases e'
  exact ⟨e,f0,f1,f2,d⟩
theorem Inv.unpinned {pins pl:List (Addr×Obj)} {σ:St} {H:Hp} {s:Shared} (I:Inv X (pins++pl) σ H s):Inv X pins σ H s:=I.pins_of fun p hp=>I.pin p (ybp _ (ydA _ hp))
theorem zcZ {iter:Expr} {body:List Stmt} {wi:TI} {g:TG} {tb:TS} {pos:Pos} (hp:PassesOwn (model X.prog X.w) X.A X.env X.xe) (hc:X.calm=true) (hi:PI X tg iter wi) (hg:PG X tg g) (hb:PSs X body tb)
  (hs:∀ x,foldedSetIterable iter X.env x=pure x:=by intro _;rfl):PS X (.For tg iter body [] pos) (tFor wi g tb):=by
 intro pins s σ H D I h
 refine wpAny_For (thn (hi pins s σ H _ I h) fun v s1 h1=>thn h1 fun itv s2 h2 => ?_) hs
 obtain ⟨it,fp,tn,J,H2,e,I2,T,st2,f2,W,⟨m0,w0⟩,turn⟩:=h2
 subst e
 have stat:∀ {H':Hp},(∀ b∈fp,H' b=none)→∀ b∈fp,FpOk X pins H' b:=fun hn b hb=>⟨hn b hb,(f2 b hb).2⟩
 refine codeAny_forLoop_any (fun n s'=>∃ i σ' H',Inv X pins σ' H' s'∧tn i s'.heap∧(∀ b∈fp,H' b=none)∧W i n σ' H') ?_ m0 ⟨0,σ,H2,I2,st2,fun b hb=>(f2 b hb).1,w0⟩
 rintro n s3 ⟨i,σ3,H3,I3,st3,fr3,w3⟩
 rcases turn i n σ3 H3 w3 with ⟨stop,qn⟩ | ⟨go,N,hN,step⟩
 ·refine ydW hp (thn (T.done X rfl rfl rfl hc i pins s3 σ3 H3 X.xe I3 (stat fr3) st3 stop) fun r s4 ho_ => ?_)
  obtain ⟨hr,I4⟩:=ho_
  subst hr
  exact wpAny_execs_nil ⟨σ3,H3,I4,qn⟩
 ·refine ydW hp (thn (T.item X rfl rfl rfl hc i pins s3 σ3 H3 X.xe I3 (stat fr3) st3 go) fun r s4 ho_ => ?_)
  obtain ⟨u,hr,h4⟩:=ho_
  subst hr
  refine ydW hp (thn h4 fun _ s5 ho_ => ?_)
  obtain ⟨x,H5,I5,r5,y5,st5,fr5⟩:=ho_
  have I5':=I5.pinned (stat fr5) (T.obj _ _ st5)
  refine ydW hp (thn (hg _ s5 σ3 H5 x u _ I5' r5 (step x H5 y5)) fun _ s6 ho_ => ?_)
  obtain ⟨σ6,H6,I6,q6⟩:=ho_
  refine ydW hp (thn (hb _ s6 σ6 H6 _ I6 q6) fun f s7 q7 => ?_)
  have again:∀ {σ7:St} {H7:Hp},Inv X (pins++zgx fp s5.heap) σ7 H7 s7→N σ7 H7→∃ m,m < n∧∃ i σ' H',Inv X pins σ' H' s7∧tn i s7.heap∧(∀ b∈fp,H' b=none)∧W i m σ' H':=fun {σ7 H7} I7 n7=>by
   obtain ⟨m',hm,w7⟩:=hN σ7 H7 n7
   refine ⟨m',hm,i+1,σ7,H7,I7.unpinned,T.keep _ _ _ st5 fun b hb o e=>(I7.pin (b,o) (ybp _ (ybp _ (zc9 hb e)))).1,fun b hb => ?_,w7⟩
   obtain ⟨o,e,d⟩:=T.obj _ _ st5 b hb
   exact (I7.pin (b,o) (ybp _ (ybp _ (zc9 hb e)))).2.1
  cases f with
  | next=>obtain ⟨σ7,H7,I7,n7⟩:=q7;exact again I7 n7
  | cont=>obtain ⟨σ7,H7,I7,n7⟩:=q7;exact again I7 n7
  | brk=>obtain ⟨σ7,H7,I7,q7⟩:=q7;exact ⟨σ7,H7,I7.unpinned,q7⟩
  | ret v=>obtain ⟨x7,σ7,H7,I7,r7,q7⟩:=q7;exact ⟨x7,σ7,H7,I7.unpinned,r7,q7⟩
end
theorem zeh {K:PySem.W.Frag} {a:Addr} {xs:List V} {g:TG} {tb:TS} {D:Ends} {σ:St} {H:Hp} (Pv:Nat→St→Hp→Prop) (h0:Pv 0 σ H) (hl:∀ i σ H,i≤xs.length→Pv i σ H→SqL K H a xs)
  (hs:∀ i x σ H,xs[i]? = some x→Pv i σ H→g x σ H fun σ2 H2=>tb { D with nx:=Pv (i+1),ct:=Pv (i+1),bk:=D.nx } σ2 H2) (hd:∀ σ H,Pv xs.length σ H→D.nx σ H) :
  ∃ W:Nat→Nat→St→Hp→Prop,(∃ m,W 0 m σ H)∧∀ i m σ H,W i m σ H →
   ((Itl K a).stop i H∧D.nx σ H)∨((Itl K a).go i H∧∃ N:St→Hp→Prop,(∀ σ' H',N σ' H'→∃ m',m' < m∧W (i+1) m' σ' H')∧∀ x H',(Itl K a).yld i H x H'→g x σ H' fun σ2 H2=>tb { D with nx:=N,ct:=N,bk:=D.nx } σ2 H2):=by
 refine ⟨fun i m σ H=>m=xs.length - i∧i≤xs.length∧Pv i σ H,⟨xs.length,by simp,ya2 _,h0⟩,?_⟩
 rintro i m σ H ⟨rfl,hi,p⟩
 have q:=hl i σ H hi p
 by_cases hlt:i < xs.length
 ·refine .inr ⟨⟨xs,xs[i],q,by simp [hlt]⟩,Pv (i+1),fun σ' H' p'=>⟨xs.length - (i+1),by omega,rfl,hlt,p'⟩,fun x H' y => ?_⟩
  obtain ⟨e,y⟩:=y
  subst e
  exact hs i x σ _ (y xs q) p
 ·have e:i=xs.length:=by omega
  subst e
  exact .inl ⟨⟨xs,q,yag _⟩,hd σ H p⟩
theorem for_tup {K:PySem.W.Frag} {a:Addr} {xs:List V} {g:TG} {tb:TS} {D:Ends} {σ:St} {H:Hp} (Pv:Nat→St→Hp→Prop) (h0:Pv 0 σ H) (hl:∀ i σ H,i≤xs.length→Pv i σ H→SqT K H a xs)
  (hs:∀ i x σ H,xs[i]? = some x→Pv i σ H→g x σ H fun σ2 H2=>tb { D with nx:=Pv (i+1),ct:=Pv (i+1),bk:=D.nx } σ2 H2) (hd:∀ σ H,Pv xs.length σ H→D.nx σ H) :
  ∃ W:Nat→Nat→St→Hp→Prop,(∃ m,W 0 m σ H)∧∀ i m σ H,W i m σ H →
   ((Itt K a).stop i H∧D.nx σ H)∨((Itt K a).go i H∧∃ N:St→Hp→Prop,(∀ σ' H',N σ' H'→∃ m',m' < m∧W (i+1) m' σ' H')∧∀ x H',(Itt K a).yld i H x H'→g x σ H' fun σ2 H2=>tb { D with nx:=N,ct:=N,bk:=D.nx } σ2 H2):=by
 refine ⟨fun i m σ H=>m=xs.length - i∧i≤xs.length∧Pv i σ H,⟨xs.length,by simp,ya2 _,h0⟩,?_⟩
 rintro i m σ H ⟨rfl,hi,p⟩
 have q:=hl i σ H hi p
 by_cases hlt:i < xs.length
 ·refine .inr ⟨⟨xs,xs[i],q,by simp [hlt]⟩,Pv (i+1),fun σ' H' p'=>⟨xs.length - (i+1),by omega,rfl,hlt,p'⟩,fun x H' y => ?_⟩
  obtain ⟨e,y⟩:=y
  subst e
  exact hs i x σ _ (y xs q) p
 ·have e:i=xs.length:=by omega
  subst e
  exact .inl ⟨⟨xs,q,yag _⟩,hd σ H p⟩
theorem zdy {lo:Int} {n:Nat} {g:TG} {tb:TS} {D:Ends} {σ:St} {H:Hp} (Pv:Nat→St→Hp→Prop) (h0:Pv 0 σ H)
  (hs:∀ i σ H,i < n→Pv i σ H→g (.int (lo+i)) σ H fun σ2 H2=>tb { D with nx:=Pv (i+1),ct:=Pv (i+1),bk:=D.nx } σ2 H2) (hd:∀ σ H,Pv n σ H→D.nx σ H) :
  ∃ W:Nat→Nat→St→Hp→Prop,(∃ m,W 0 m σ H)∧∀ i m σ H,W i m σ H →
   ((Itr lo n).stop i H∧D.nx σ H)∨((Itr lo n).go i H∧∃ N:St→Hp→Prop,(∀ σ' H',N σ' H'→∃ m',m' < m∧W (i+1) m' σ' H')∧∀ x H',(Itr lo n).yld i H x H'→g x σ H' fun σ2 H2=>tb { D with nx:=N,ct:=N,bk:=D.nx } σ2 H2):=by
 refine ⟨fun i m σ H=>m=n - i∧i≤n∧Pv i σ H,⟨n,by simp,ya2 _,h0⟩,?_⟩
 rintro i m σ H ⟨rfl,hi,p⟩
 by_cases hlt:i < n
 ·refine .inr ⟨hlt,Pv (i+1),fun σ' H' p'=>⟨n - (i+1),by omega,rfl,hlt,p'⟩,fun x H' y => ?_⟩
  obtain ⟨e,y⟩:=y
  subst e y
  exact hs i σ _ hlt p
 ·have e:i=n:=by omega
  subst e
  exact .inl ⟨yag _,hd σ H p⟩
abbrev R2:=V→V→Hp→VK→Prop
def OpR (X:Cx) (f:Value→Value→Sem Value) (r:R2):Prop :=
 ∀ (pins:List (Addr×Obj)) (s:Shared) (σ:St) (H:Hp) (x y:V) (v u:Value) (Q:VK),Inv X pins σ H s→RelV x v→RelV y u→r x y H Q →
  wpAny (model X.prog X.w) X.A (f v u) (EP X pins σ Q) X.xe s
def UnR (X:Cx) (f:Value→Sem Value) (r:V→Hp→VK→Prop):Prop :=
 ∀ (pins:List (Addr×Obj)) (s:Shared) (σ:St) (H:Hp) (x:V) (v:Value) (Q:VK),Inv X pins σ H s→RelV x v→r x H Q →
  wpAny (model X.prog X.w) X.A (f v) (EP X pins σ Q) X.xe s
def CallR (X:Cx) (f:Value) (r:List V→Hp→VK→Prop):Prop :=
 ∀ (pins:List (Addr×Obj)) (s:Shared) (σ:St) (H:Hp) (xs:List V) (us:List Value) (Q:VK),Inv X pins σ H s→Vals xs us→r xs H Q →
  wpAny (model X.prog X.w) X.A (call f us) (EP X pins σ Q) X.xe s
def tOp (r:R2) (ta tb:TE):TE:=fun σ H Q=>ta σ H fun x H1=>tb σ H1 fun y H2=>r x y H2 Q
def tUn (r:V→Hp→VK→Prop) (ta:TE):TE:=fun σ H Q=>ta σ H fun x H1=>r x H1 Q
def rI (C:Int→Int→Prop) (g:Int→Int→V):R2:=fun x y H Q=>∃ i j,x = .int i∧y = .int j∧C i j∧Q (g i j) H
def rI0 (g:Int→Int→V):R2:=fun x y H Q=>∃ i j,x = .int i∧y = .int j∧Q (g i j) H
def rU (g:Int→V):V→Hp→VK→Prop:=fun x H Q=>∃ i,x = .int i∧Q (g i) H
section
variable {X:Cx} {a b c:Expr} {ta tb tc:TE} {pos:Pos}
theorem binT (ha:PE X a ta) (hb:PE X b tb) {pins:List (Addr×Obj)} {s:Shared} {σ:St} {H:Hp} {R:V→V→Hp→Prop} (I:Inv X pins σ H s)
  (h:ta σ H fun x H1=>tb σ H1 fun y H2=>R x y H2) {Q:Value→Shared→Prop} {f:Value→Value→Sem Value}
  (hf:∀ v u s2 x y H2,Inv X pins σ H2 s2→RelV x v→RelV y u→R x y H2→wpAny (model X.prog X.w) X.A (f v u) Q X.xe s2) :
  wpAny (model X.prog X.w) X.A (eval a X.env) (fun v s₁=>wpAny (model X.prog X.w) X.A (eval b X.env) (fun u s₂=>wpAny (model X.prog X.w) X.A (f v u) Q X.xe s₂) X.xe s₁) X.xe s:=by
 refine thn (ha pins s σ H _ I h) fun v s1 ho_ => ?_
 obtain ⟨x,H1,I1,r1,q1⟩:=ho_
 refine thn (hb pins s1 σ H1 _ I1 q1) fun u s2 ho_ => ?_
 obtain ⟨y,H2,I2,r2,q2⟩:=ho_
 exact hf v u s2 x y H2 I2 r1 r2 q2
theorem pe_op {op:Operator} {r:R2} (ho:OpR X (yeH op) r) (ha:PE X a ta) (hb:PE X b tb):PE X (.BinOp a op b pos) (tOp r ta tb):=by
 intro pins s σ H Q I h
 exact wpAny_BinOp (binT ha hb I h fun v u s2 x y H2 I2 rx ry q=>ho pins s2 σ H2 x y v u Q I2 rx ry q)
theorem pe_un {op:UnaryOp} {r:V→Hp→VK→Prop} (ho:UnR X (unaryOp op) r) (ha:PE X a ta):PE X (.UnaryOp op a pos) (tUn r ta):=by
 intro pins s σ H Q I h
 exact UnaryOp_ (thn (ha pins s σ H _ I h) (by rintro v s1 ⟨x,H1,I1,r1,q1⟩;exact ho pins s1 σ H1 x v Q I1 r1 q1))
theorem opI {f:Value→Value→Sem Value} {C:Int→Int→Prop} {g:Int→Int→Int}
  (rule:∀ (i j:Int) (t u:Tok) (s:Shared) (Q:Value→Shared→Prop) (E:Value→Shared→Prop),C i j→Q (.int (g i j) s.toks) { s with toks:=s.toks+1 }→wpAny (model X.prog X.w) X.A (f (.int i t) (.int j u)) Q E s) :
  OpR X f (rI C fun i j => .int (g i j)):=by
 intro pins s σ H x y v u Q I rx ry h
 obtain ⟨i,j,rfl,rfl,hc,q⟩:=h
 obtain ⟨t,rfl⟩:=rx
 obtain ⟨t',rfl⟩:=ry
 exact rule i j t t' s _ _ hc ⟨.int (g i j),H,I.tok _,⟨_,rfl⟩,q⟩
theorem opI0 {f:Value→Value→Sem Value} {g:Int→Int→Int}
  (rule:∀ (i j:Int) (t u:Tok) (s:Shared) (Q:Value→Shared→Prop) (E:Value→Shared→Prop),Q (.int (g i j) s.toks) { s with toks:=s.toks+1 }→wpAny (model X.prog X.w) X.A (f (.int i t) (.int j u)) Q E s) :
  OpR X f (rI0 fun i j => .int (g i j)):=by
 intro pins s σ H x y v u Q I rx ry h
 obtain ⟨i,j,rfl,rfl,q⟩:=h
 obtain ⟨t,rfl⟩:=rx
 obtain ⟨t',rfl⟩:=ry
 exact rule i j t t' s _ _ ⟨.int (g i j),H,I.tok _,⟨_,rfl⟩,q⟩
theorem opB0 {f:Value→Value→Sem Value} {g:Int→Int→Bool}
  (rule:∀ (i j:Int) (t u:Tok) (s:Shared) (Q:Value→Shared→Prop) (E:Value→Shared→Prop),Q (.bool (g i j)) s→wpAny (model X.prog X.w) X.A (f (.int i t) (.int j u)) Q E s) :
  OpR X f (rI0 fun i j => .bl (g i j)):=by
 intro pins s σ H x y v u Q I rx ry h
 obtain ⟨i,j,rfl,rfl,q⟩:=h
 obtain ⟨t,rfl⟩:=rx
 obtain ⟨t',rfl⟩:=ry
 exact rule i j t t' s _ _ ⟨.bl (g i j),H,I,rfl,q⟩
def CPow (i j:Int):Prop:=0≤j∧j≤1000000∧i.natAbs < 2 ^ 64
def CMul (i j:Int):Prop:=(-(2 ^ 64) < i∧i < 2 ^ 64)∨(-(2 ^ 64) < j∧j < 2 ^ 64)
theorem CMul.ok {i j:Int} (h:CMul i j):IntMulOk i j:=by
 rcases h with ⟨h1,h2⟩ | ⟨h1,h2⟩
 ·exact .of_left (intBits_le_64 h1 h2)
 ·exact .of_right (intBits_le_64 h1 h2)
theorem za6:OpR X (yeH .Add) (rI0 fun i j => .int (i+j)):=opI0 fun _ _ _ _ _ _ _ q=>add_int q
theorem op_sub:OpR X (yeH .Sub) (rI0 fun i j => .int (i - j)):=opI0 fun _ _ _ _ _ _ _ q=>sub_int q
theorem zdP:OpR X (yeH .Mult) (rI CMul fun i j => .int (i*j)):=opI fun _ _ _ _ _ _ _ hc q=>mul_int q hc.ok
theorem zaX:OpR X (yeH .Mod) (rI (fun _ j=>0 < j) fun i j => .int (i % j)):=opI fun i j _ _ _ _ _ hc q=>by
 have h1:(0:Int) < j:=hc
 exact mod_int' (by omega) (by rw [Int.fmod_eq_emod_of_nonneg i (by omega)];exact q)
theorem zd7:OpR X (yeH .Pow) (rI CPow fun i j => .int (i ^ j.toNat)):=opI fun _ _ _ _ _ _ _ hc q=>pow_int_small hc.1 hc.2.1 hc.2.2 q
theorem unI {f:Value→Sem Value} {g:Int→Int}
  (rule:∀ (i:Int) (t:Tok) (s:Shared) (Q:Value→Shared→Prop) (E:Value→Shared→Prop),Q (.int (g i) s.toks) { s with toks:=s.toks+1 }→wpAny (model X.prog X.w) X.A (f (.int i t)) Q E s) :
  UnR X f (rU fun i => .int (g i)):=by
 intro pins s σ H x v Q I rx h
 obtain ⟨i,rfl,q⟩:=h
 obtain ⟨t,rfl⟩:=rx
 exact rule i t s _ _ ⟨.int (g i),H,I.tok _,⟨_,rfl⟩,q⟩
theorem zdQ:UnR X (unaryOp .USub) (rU fun i => .int (-i)):=unI fun _ _ _ _ _ q=>neg_int q
end
def scal:V→V→Bool
 | .non,.non=>true | .non,.int _=>true | .int _,.non=>true | .non,.bl _=>true | .bl _,.non=>true | .non,.str _=>true | .str _,.non=>true
 | .int _,.int _=>true | .bl _,.bl _=>true | .str _,.str _=>true | .byt _,.byt _=>true
 | .int _,.str _=>true | .str _,.int _=>true | .bl _,.str _=>true | .str _,.bl _=>true
 | _,_=>false
def rEq:R2:=fun x y H Q=>scal x y=true∧Q (.bl (decide (x=y))) H
def rNe:R2:=fun x y H Q=>scal x y=true∧Q (.bl (!decide (x=y))) H
theorem dec_int {i j:Int}:decide (V.int i=V.int j)=(i == j):=by
 rw [yb3]
 simp
theorem dec_bl {i j:Bool}:decide (V.bl i=V.bl j)=(i == j):=by
 rw [yb3]
 simp
theorem dec_str {i j:Str}:decide (V.str i=V.str j)=(i == j):=by
 rw [yb3]
 simp
theorem dec_byt {i j:Array UInt8}:decide (V.byt i=V.byt j)=(i.toList == j.toList):=by
 rw [yb3]
 cases i
 cases j
 simp
section
variable {X:Cx} {a b c:Expr} {ta tb tc:TE} {pos:Pos}
theorem zaT {pins:List (Addr×Obj)} {σ:St} {H:Hp} {s:Shared} {Q:VK} {k k':Bool} (I:Inv X pins σ H s) (q:Q (.bl k) H) (e:k=k'):EP X pins σ Q (.bool k') s:=by
 subst e
 exact ⟨.bl k,H,I,rfl,q⟩
theorem op_eq:OpR X (ybo .Eq) rEq:=by
 intro pins s σ H x y v u Q I rx ry h
 obtain ⟨hs,q⟩:=h
 cases x with
 | non =>
  cases rx
  cases y with
  | non=>cases ry;exact PySem.EqNone.eq_none_none (zaT I q (by simp))
  | bl j=>cases ry;exact PySem.EqNone.eq_none_bool (zaT I q (by simp))
  | int j=>obtain ⟨t',rfl⟩:=ry;exact PySem.EqNone.eq_none_int (zaT I q (by simp))
  | str j=>obtain ⟨t',rfl⟩:=ry;exact PySem.EqNone.eq_none_str (zaT I q (by simp))
  | _=>exact absurd (show false=true from hs) yaK
 | bl i =>
  cases rx
  cases y with
  | non=>cases ry;exact PySem.EqNone.eq_bool_none (zaT I q (by simp))
  | bl j=>cases ry;exact eq_bool (zaT I q dec_bl)
  | str j=>obtain ⟨t',rfl⟩:=ry;exact PySem.EqMixed.eq_bool_str (zaT I q (by simp))
  | _=>exact absurd (show false=true from hs) yaK
 | int i =>
  obtain ⟨t,rfl⟩:=rx
  cases y with
  | non=>cases ry;exact PySem.EqNone.eq_int_none (zaT I q (by simp))
  | int j=>obtain ⟨t',rfl⟩:=ry;exact eq_int (zaT I q dec_int)
  | str j=>obtain ⟨t',rfl⟩:=ry;exact PySem.EqMixed.eq_int_str (zaT I q (by simp))
  | _=>exact absurd (show false=true from hs) yaK
 | str i =>
  obtain ⟨t,rfl⟩:=rx
  cases y with
  | non=>cases ry;exact PySem.EqNone.eq_str_none (zaT I q (by simp))
  | bl j=>cases ry;exact PySem.EqMixed.eq_str_bool (zaT I q (by simp))
  | int j=>obtain ⟨t',rfl⟩:=ry;exact PySem.EqMixed.eq_str_int (zaT I q (by simp))
  | str j=>obtain ⟨t',rfl⟩:=ry;exact eq_str (zaT I q dec_str)
  | _=>exact absurd (show false=true from hs) yaK
 | byt i =>
  obtain ⟨t,rfl⟩:=rx
  cases y with
  | byt j=>obtain ⟨t',rfl⟩:=ry;exact PySem.W.eq_bytes (zaT I q dec_byt)
  | _=>exact absurd (show false=true from hs) yaK
 | _=>cases y <;> exact absurd (show false=true from hs) yaK
theorem op_ne:OpR X (ybo .NotEq) rNe:=by
 intro pins s σ H x y v u Q I rx ry h
 obtain ⟨hs,q⟩:=h
 cases x with
 | non =>
  cases rx
  cases y with
  | non=>cases ry;exact PySem.EqNone.ne_none_none (zaT I q (by simp))
  | bl j=>cases ry;exact PySem.EqNone.ne_none_bool (zaT I q (by simp))
  | int j=>obtain ⟨t',rfl⟩:=ry;exact PySem.EqNone.ne_none_int (zaT I q (by simp))
  | str j=>obtain ⟨t',rfl⟩:=ry;exact PySem.EqNone.ne_none_str (zaT I q (by simp))
  | _=>exact absurd (show false=true from hs) yaK
 | bl i =>
  cases rx
  cases y with
  | non=>cases ry;exact PySem.EqNone.ne_bool_none (zaT I q (by simp))
  | bl j=>cases ry;exact ne_bool (zaT I q (congrArg not dec_bl))
  | str j=>obtain ⟨t',rfl⟩:=ry;exact PySem.EqMixed.ne_bool_str (zaT I q (by simp))
  | _=>exact absurd (show false=true from hs) yaK
 | int i =>
  obtain ⟨t,rfl⟩:=rx
  cases y with
  | non=>cases ry;exact PySem.EqNone.ne_int_none (zaT I q (by simp))
  | int j=>obtain ⟨t',rfl⟩:=ry;exact ne_int (zaT I q (congrArg not dec_int))
  | str j=>obtain ⟨t',rfl⟩:=ry;exact PySem.EqMixed.ne_int_str (zaT I q (by simp))
  | _=>exact absurd (show false=true from hs) yaK
 | str i =>
  obtain ⟨t,rfl⟩:=rx
  cases y with
  | non=>cases ry;exact PySem.EqNone.ne_str_none (zaT I q (by simp))
  | bl j=>cases ry;exact PySem.EqMixed.ne_str_bool (zaT I q (by simp))
  | int j=>obtain ⟨t',rfl⟩:=ry;exact PySem.EqMixed.ne_str_int (zaT I q (by simp))
  | str j=>obtain ⟨t',rfl⟩:=ry;exact ne_str (zaT I q (congrArg not dec_str))
  | _=>exact absurd (show false=true from hs) yaK
 | byt i =>
  obtain ⟨t,rfl⟩:=rx
  cases y with
  | byt j=>obtain ⟨t',rfl⟩:=ry;exact PySem.W.ne_bytes (zaT I q (congrArg not dec_byt))
  | _=>exact absurd (show false=true from hs) yaK
 | _=>cases y <;> exact absurd (show false=true from hs) yaK
theorem op_lt:OpR X (ybo .Lt) (rI0 fun i j => .bl (decide (i < j))):=opB0 fun _ _ _ _ _ _ _ q=>lt_int q
theorem op_le:OpR X (ybo .LtE) (rI0 fun i j => .bl (decide (i≤j))):=opB0 fun _ _ _ _ _ _ _ q=>le_int q
theorem op_gt:OpR X (ybo .Gt) (rI0 fun i j => .bl (decide (j < i))):=opB0 fun _ _ _ _ _ _ _ q=>gt_int q
theorem op_ge:OpR X (ybo .GtE) (rI0 fun i j => .bl (decide (j≤i))):=opB0 fun _ _ _ _ _ _ _ q=>ge_int q
theorem op_in_str:OpR X (ybo .In) (fun x y H Q=>∃ i j,x = .str i∧y = .str j∧Q (.bl (!(ybK j i 0 j.length 1).isEmpty)) H):=by
 intro pins s σ H x y v u Q I rx ry h
 obtain ⟨i,j,rfl,rfl,q⟩:=h
 obtain ⟨t,rfl⟩:=rx
 obtain ⟨t',rfl⟩:=ry
 exact in_str (zaT I q rfl)
theorem zd5:OpR X (ybo .NotIn) (fun x y H Q=>∃ i j,x = .str i∧y = .str j∧Q (.bl (!(!(ybK j i 0 j.length 1).isEmpty))) H):=by
 intro pins s σ H x y v u Q I rx ry h
 obtain ⟨i,j,rfl,rfl,q⟩:=h
 obtain ⟨t,rfl⟩:=rx
 obtain ⟨t',rfl⟩:=ry
 exact notIn_str (zaT I q rfl)
theorem OpR.or {f:Value→Value→Sem Value} {r r':R2} (h:OpR X f r) (h':OpR X f r'):OpR X f (fun x y H Q=>r x y H Q∨r' x y H Q):=by
 intro pins s σ H x y v u Q I rx ry q
 rcases q with q | q
 ·exact h pins s σ H x y v u Q I rx ry q
 ·exact h' pins s σ H x y v u Q I rx ry q
theorem zaA (b:Expr) {op:CmpOp} (h:op ≠ .In:=by decide) (h2:op ≠ .NotIn:=by decide):yc9 op b=false:=by
 have e1:(op == CmpOp.In)=false:=by cases op <;> first | rfl | exact absurd rfl h
 have e2:(op == CmpOp.NotIn)=false:=by cases op <;> first | rfl | exact absurd rfl h2
 cases b <;> simp [yc9,e1,e2]
theorem zeu {op:CmpOp} {r:R2} (ho:OpR X (ybo op) r) (ha:PE X a ta) (hb:PE X b tb) (hm:yc9 op b=false):PE X (.Compare a [op] [b] pos) (tOp r ta tb):=by
 intro pins s σ H Q I h
 exact wpAny_Compare1 (binT ha hb I h fun v u s2 x y H2 I2 rx ry q=>ho pins s2 σ H2 x y v u Q I2 rx ry q) hm
def tTest (t:TE):TT:=fun σ H Q=>t σ H fun x H'=>∃ k,x = .bl k∧Q k H'
theorem zan {op:CmpOp} {r:R2} (ho:OpR X (ybo op) r) (ha:PE X a ta) (hb:PE X b tb) (hm:yc9 op b=false):PT X (.Compare a [op] [b] pos) (tTest (tOp r ta tb)):=by
 intro pins s σ H Q I h
 refine wpAny_isTrue_Compare1 (thn (ha pins s σ H _ I h) fun v s1 ⟨x,H1,I1,r1,q1⟩=>thn (hb pins s1 σ H1 _ I1 q1) fun u s2 ⟨y,H2,I2,r2,q2⟩ =>
  thn (ho pins s2 σ H2 x y v u _ I2 r1 r2 q2) fun c s3 ⟨z,H3,I3,r3,k,e,q3⟩ => ?_) hm
 subst e
 cases r3
 exact ybN ⟨H3,I3,q3⟩
def tChain (r r':R2) (ta tb tc:TE):TE:=fun σ H Q=>ta σ H fun x H1=>tb σ H1 fun y H2=>r x y H2 fun z H3=>∃ k,z = .bl k ∧
 (if k=true then tc σ H3 fun w' H4=>r' y w' H4 Q else Q (.bl false) H3)
theorem zi4 {op op':CmpOp} {r r':R2} (ho:OpR X (ybo op) r) (ho':OpR X (ybo op') r') (ha:PE X a ta) (hb:PE X b tb) (hc:PE X c tc)
  (hm:lastMarks [op,op'] [b,c]=false:=by with_unfolding_all rfl):PE X (.Compare a [op,op'] [b,c] pos) (tChain r r' ta tb tc):=by
 intro pins s σ H Q I h
 refine Compare_chain (thn (ha pins s σ H _ I h) fun v s1 ⟨x,H1,I1,r1,q1⟩=>chain_link (thn (hb pins s1 σ H1 _ I1 q1) fun u s2 ⟨y,H2,I2,r2,q2⟩ =>
  thn (ho pins s2 σ H2 x y v u _ I2 r1 r2 q2) fun d s3 ⟨z,H3,I3,r3,k,e,q3⟩ => ?_)) hm
 subst e
 cases r3
 refine ybN ?_
 cases k with
 | false=>exact ite_ff ⟨.bl false,H3,I3,rfl,q3⟩
 | true=>exact ite_tt (chain_last (thn (hc pins s3 σ H3 _ I3 q3) (by rintro w' s4 ⟨z',H4,I4,r4,q4⟩;exact ho' pins s4 σ H4 y z' u w' Q I4 r2 r4 q4)))
theorem zgo {op op':CmpOp} {r r':R2} (ho:OpR X (ybo op) r) (ho':OpR X (ybo op') r') (ha:PE X a ta) (hb:PE X b tb) (hc:PE X c tc)
  (hm:lastMarks [op,op'] [b,c]=false:=by with_unfolding_all rfl):PT X (.Compare a [op,op'] [b,c] pos) (tTest (tChain r r' ta tb tc)):=by
 intro pins s σ H Q I h
 refine isTrue_chain (thn (ha pins s σ H _ I h) fun v s1 ⟨x,H1,I1,r1,q1⟩=>test_link (thn (hb pins s1 σ H1 _ I1 q1) fun u s2 ⟨y,H2,I2,r2,q2⟩ =>
  thn (ho pins s2 σ H2 x y v u _ I2 r1 r2 q2) fun d s3 ⟨z,H3,I3,r3,k,e,q3⟩ => ?_)) hm
 subst e
 cases r3
 refine ybN ?_
 cases k with
 | false =>
  obtain ⟨k',e',q'⟩:=q3
  cases e'
  exact ite_ff ⟨H3,I3,q'⟩
 | true =>
  refine ite_tt (test_last (thn (hc pins s3 σ H3 _ I3 q3) fun w' s4 ⟨z',H4,I4,r4,q4⟩=>thn (ho' pins s4 σ H4 y z' u w' _ I4 r2 r4 q4) fun d' s5 ho_ => ?_))
  obtain ⟨z2,H5,I5,r5,k2,e2,q5⟩:=ho_
  subst e2
  cases r5
  exact ybN ⟨H5,I5,q5⟩
theorem zfE:(yaW:Nat) < 2 ^ 63:=by rw [sizeLine_eq];decide
theorem zaw:OpR X (yeH .Add) (fun x y H Q=>∃ i j,x = .str i∧y = .str j∧i.length+j.length≤yaW∧Q (.str (i++j)) H):=by
 intro pins s σ H x y v u Q I rx ry h
 obtain ⟨i,j,rfl,rfl,hz,q⟩:=h
 obtain ⟨t,rfl⟩:=rx
 obtain ⟨t',rfl⟩:=ry
 exact add_str (fun t' tk=>⟨.str (i++j),H,I.tok _,⟨_,rfl⟩,q⟩) hz
theorem vals1 {x:V} {us:List Value} (r:Vals [x] us):∃ u,us = [u]∧RelV x u:=by
 cases r with
 | cons r1 r2=>cases r2;exact ⟨_,rfl,r1⟩
theorem vals2 {x y:V} {us:List Value} (r:Vals [x,y] us):∃ u w',us = [u,w']∧RelV x u∧RelV y w':=by
 cases r with
 | cons r1 r2 =>
  cases r2 with
  | cons r3 r4=>cases r4;exact ⟨_,_,rfl,r1,r3⟩
theorem call_abs:CallR X (.builtin "abs") (fun xs H Q=>∃ i,xs = [.int i]∧Q (.int (if i < 0 then -i else i)) H):=by
 intro pins s σ H xs us Q I r h
 obtain ⟨i,rfl,q⟩:=h
 obtain ⟨u,rfl,t,rfl⟩:=vals1 r
 exact call_abs_int fun u tk=>⟨.int (if i < 0 then -i else i),H,I.tok _,⟨_,rfl⟩,q⟩
theorem zdE:CallR X (.type "int") (fun xs H Q=>(∃ i,xs = [.int i]∧Q (.int i) H)∨∃ k,xs = [.bl k]∧Q (.int (if k then 1 else 0)) H):=by
 intro pins s σ H xs us Q I r h
 rcases h with ⟨i,rfl,q⟩ | ⟨k,rfl,q⟩
 ·obtain ⟨u,rfl,t,rfl⟩:=vals1 r
  exact call_int_int ⟨.int i,H,I,⟨_,rfl⟩,q⟩
 ·obtain ⟨u,rfl,r1⟩:=vals1 r
  cases r1
  exact call_int_bool ⟨.int (if k then 1 else 0),H,I.tok _,⟨_,rfl⟩,q⟩
theorem zcj:CallR X (.type "str") (fun xs H Q=>∃ i,xs = [.int i]∧i.natAbs.log2 < 1920∧Q (.str (toString i)) H):=by
 intro pins s σ H xs us Q I r h
 obtain ⟨i,rfl,hz,q⟩:=h
 obtain ⟨u,rfl,t,rfl⟩:=vals1 r
 exact PySem.P.str_of_int hz ⟨.str _,H,I.tok _,⟨_,rfl⟩,q⟩
end
structure ObjM (h:Heap) (x dx C:Addr) (mA:Str→Option Value):Prop where
 obj:h.get? x=some (ycJ C dx)
 ns:h.Ns1 dx mA
 ne:dx≠x
theorem lookIn_ns {h:Heap} {dx:Addr} {mA:Str→Option Value} (n:h.Ns1 dx mA):∃ od,h.get? dx=some od∧∀ name,yfn name od=some (mA name):=by
 obtain ⟨o,es,ep,ho,hd,hk,_,hm⟩:=n
 refine ⟨o,ho,fun name => ?_⟩
 have e:=hm name
 unfold nsFind findBy at e
 rw [← Array.find?_toList] at e
 unfold yfn
 rw [hd]
 dsimp only
 split
 ·rename_i y q
  rw [q] at e
  exact congrArg some e
 ·rename_i q
  rw [q] at e
  have a:es.toList.any (·.refKey)=false:=by
   rw [List.any_eq_false]
   intro y hy
   obtain ⟨z,t,hkey⟩:=hk y (yeD.mp hy)
   simp [DictEntry.refKey,hkey]
  have a':¬ es.toList.any (·.refKey)=true:=by rw [a];exact yaK
  rw [if_neg a']
  exact congrArg some e
theorem ObjM.look {h:Heap} {x dx C:Addr} {mA:Str→Option Value} (I:ObjM h x dx C mA):∃ od,PySem.W.InstAt h x (ycJ C dx) C (some od)∧∀ name,yfn name od=some (mA name) :=
 let ⟨od,ho,hl⟩:=lookIn_ns I.ns
 ⟨od,⟨I.obj,rfl,rfl,ho⟩,hl⟩
section
variable {prog:Program} {w:World} {A:Around} {E:Value→Shared→Prop} {s:Shared} {K:PySem.W.Frag} {x dx C f:Addr} {mA:Str→Option Value} {name:Str} {v:Value}
theorem get_map {expr:Bool} {Q:Value→Shared→Prop} (X:K.In s.heap) (I:ObjM s.heap x dx C mA) (hg:ydK K C name=true) (hh:yeb K C=true)
  (ha:ybt K (.ref C) name=some none) (hv:mA name=some v) (hv':PySem.W.handedIn v=true) (h:Q v { s with toks:=s.toks+1 }) :
  wpAny (model prog w) A (getAttr (.ref x) name expr) Q E s:=by
 obtain ⟨od,J,hl⟩:=I.look
 exact PySem.W.get_value X J (yeS hg).1 (PySem.W.findObj_own hh ha rfl (by rw [hl,hv])) hv' h
theorem get_meth {pl:Sem Bool} {Q:Value×List Value→Shared→Prop} (X:K.In s.heap) (I:ObjM s.heap x dx C mA) (hg:ydK K C name=true)
  (hf:ybt K (.ref C) name=some (some (.ref f))) (ht:yes K (.ref f)=true) (hv:mA name=none) (h:Q (.ref f,[.ref x]) s) :
  wpAny (model prog w) A (getMethod (.ref x) name pl) Q E s:=by
 obtain ⟨od,J,hl⟩:=I.look
 exact PySem.W.method_fn X J (yeS hg).1 (yeS hg).2 hf (beq_iff_eq.mp ht) (by show (yfn name od).map (·.isSome)=some false;rw [hl,hv];rfl) h
theorem set_map {ns:List Str} {Q:Unit→Shared→Prop} (X:K.In s.heap) (I:ObjM s.heap x dx C mA)
  (hs:ybt K (.ref C) "__setattr__" = some (some (.builtin "object.__setattr__"))) (hp:yfA K C=true) (ht:PySem.W.takerIn K C name=some none) (hh:yeb K C=true)
  (hw:PySem.Within mA ns) (hsz:ns.length≤yaW)
  (h:∀ h',ObjM h' x dx C (fun y=>if y=name then some v else mA y)→Heap.SameBut dx s.heap h'→Q () { s with heap:=h',toks:=s.toks+2 }) :
  wpAny (model prog w) A (setAttr (.ref x) name v) Q E s:=by
 obtain ⟨od,J,hl⟩:=I.look
 refine PySem.W.set_plain X J hs (PySem.W.osa_open (s:={ s with toks:=s.toks+1 }) (r:=none) X J hp ht fun b => ?_)
 obtain ⟨cd,hc,hd'⟩:=PySem.W.any_some hh
 have hx:s.heap.get? x=some ⟨.ref C,some dx,.plain,#[]⟩:=I.obj
 refine yac (yaf (yac (yac (wpAny_loadPart hx (yac (PySem.W.Looks.here (s:={ s with toks:=s.toks+1 }) (PySem.W.looks_clsIn X hc) ?_))))))
 rw [hd']
 refine yaf (a:=some dx) (yac (yaf (yac ?_)))
 refine wpAny_nsSet1 (s:={ s with toks:=s.toks+1 }) I.ns fun h' hn2 hs2 => ?_
 obtain ⟨oD,esD,epD,hoD,hdD,hcD⟩:=hn2.count (PySem.Within.cons name v hw)
 refine yac (wpAny_lookBehind hoD (by rw [hdD];exact pastItsLine_dict (ya1 hcD (by rw [yal];omega))) ?_)
 exact yaf (h _ ⟨(hs2.2 _ (yco I.ne)).trans I.obj,hn2,I.ne⟩ hs2)
theorem make_map {R:Result→Shared→Prop} {vs:List Value} {kw:List (Str×Value)} (X:K.In s.heap) (hm:PySem.W.makesIn K C=true)
  (hi:ybt K (.ref C) "__init__" = some (some (.ref f))) (hf:PySem.W.typeIn K (.ref f)=some (.type "function"))
  (h:ydB (model prog w) (A.under (.builtin "type.__call__" ⟨.ref C :: vs,kw⟩)) (.call (.ref f) ⟨.ref (s.heap.objs.size+1) :: vs,kw⟩) (PySem.W.InitBack (s.heap.objs.size+1) R)
   { s with heap:=(s.heap.push yce).push (ycJ C s.heap.objs.size) }) :
  ydB (model prog w) A (.call (.ref C) ⟨vs,kw⟩) R s:=by
 obtain ⟨hh,g,d,t,os⟩:=s
 exact PySem.W.make_core (PySem.W.makes_of X hm) (PySem.W.looks_findIn X hi) (fun self=>PySem.W.bind_fn X self hf) (.inl rfl) h
end
def putF (f:Str) (v:V):List (Str×V)→List (Str×V)
 | [] => [(f,v)]
 | (g,x) :: r=>if g=f then (g,v) :: r else (g,x) :: putF f v r
theorem ze3 (f g:Str) (v:V):∀ fs:List (Str×V),(putF f v fs).lookup g=if g=f then some v else fs.lookup g
 | []=>by
  show yec g [(f,v)]=_
  by_cases h:g=f
  ·have hb:(g == f)=true:=beq_iff_eq.mpr h
   simp only [yec,hb,if_pos h]
  ·have hb:(g == f)=false:=beq_eq_false_iff_ne.mpr h
   simp only [yec,hb,if_neg h]
 | (k,x) :: r=>by
  have ih:=ze3 f g v r
  rw [show putF f v ((k,x) :: r)=(if k=f then (k,v) :: r else (k,x) :: putF f v r) from rfl]
  by_cases hk:k=f
  ·rw [if_pos hk]
   by_cases h:g=k
   ·have hb:(g == k)=true:=beq_iff_eq.mpr h
    simp only [yec,hb,if_pos (h.trans hk)]
   ·have hb:(g == k)=false:=beq_eq_false_iff_ne.mpr h
    simp only [yec,hb,if_neg (fun e:g=f=>h (e.trans hk.symm))]
  ·rw [if_neg hk]
   by_cases h:g=k
   ·have hb:(g == k)=true:=beq_iff_eq.mpr h
    simp only [yec,hb,if_neg (fun e:g=f=>hk (h.symm.trans e))]
   ·have hb:(g == k)=false:=beq_eq_false_iff_ne.mpr h
    simp only [yec,hb]
    exact ih
theorem zeL (f:Str) (v:V):∀ fs:List (Str×V),f∈(putF f v fs).map (·.1)∧∀ g,g∈fs.map (·.1)→g∈(putF f v fs).map (·.1)
 | []=>⟨by simp [putF],fun g h=>by simp at h⟩
 | (k,x) :: r=>by
  obtain ⟨i1,i2⟩:=zeL f v r
  rw [show putF f v ((k,x) :: r)=(if k=f then (k,v) :: r else (k,x) :: putF f v r) from rfl]
  by_cases hk:k=f
  ·rw [if_pos hk]
   subst hk
   exact ⟨by simp,fun g h=>by simpa using h⟩
  ·rw [if_neg hk]
   refine ⟨?_,fun g h => ?_⟩
   ·rw [yan]
    exact yap _ i1
   ·rw [yan] at h ⊢
    rcases yaN.mp h with e | e
    ·exact yaN.mpr (.inl e)
    ·exact yap _ (i2 g e)
theorem zes (f:Str) (v:V):∀ fs:List (Str×V),(putF f v fs).length≤fs.length+1
 | []=>by simp [putF]
 | (k,x) :: r=>by
  have ih:=zes f v r
  rw [show putF f v ((k,x) :: r)=(if k=f then (k,v) :: r else (k,x) :: putF f v r) from rfl]
  by_cases hk:k=f
  ·rw [if_pos hk,yal,yal];omega
  ·rw [if_neg hk,yal,yal];omega
theorem RelO.some_of {v:V} {o:Option Value} (r:RelO (some v) o):∃ u,o=some u∧RelV v u:=by
 cases o with
 | none=>exact (show False from r).elim
 | some u=>exact ⟨u,rfl,r⟩
theorem RelO.none_of {o:Option Value} (r:RelO none o):o=none:=by
 cases o with
 | none=>rfl
 | some u=>exact (show False from r).elim
theorem handed_of {v:V} {u:Value} (r:RelV v u):PySem.W.handedIn u=true:=by
 cases v with
 | non=>cases (show u=ycy from r);rfl
 | bl b=>cases (show u=yds b from r);rfl
 | int i=>obtain ⟨t,e⟩:=(show ∃ t,u=ycY i t from r);cases e;rfl
 | str x=>obtain ⟨t,e⟩:=(show ∃ t,u=ydV x t from r);cases e;rfl
 | byt b=>obtain ⟨t,e⟩:=(show ∃ t,u=Value.bytes b t from r);cases e;rfl
 | flt b=>obtain ⟨t,e⟩:=(show ∃ t,u=Value.float b t from r);cases e;rfl
 | ref a=>cases (show u=yaD a from r);rfl
 | ty n=>cases (show u=ybQ n from r);rfl
section
variable {P:Program} {w:World} {H H':Hp} {h h':Heap} {a C dx:Addr} {fs fs':List (Str×V)}
theorem zeT (hok:HOk P w H h) (e:H a=some (.ins C dx fs)):∃ mA,ObjM h a dx C mA∧(∀ f,RelO (fs.lookup f) (mA f))∧PySem.Within mA (fs.map (·.1))∧fs.length≤1000∧H dx=some (.own a):=by
 obtain ⟨d,z,ne,ob,mA,n,r,q⟩:=(show ObjOk P w H h a (.ins C dx fs) from hok a _ e)
 exact ⟨mA,⟨ob,n,ne⟩,r,q,z,d⟩
end
structure Cls (K:PySem.W.Frag) (C:Addr):Prop where
 pg:ydK K C Str.empty=true
 hd:yeb K C=true
 po:yfA K C=true
 sa:ybt K (.ref C) "__setattr__" = some (some (.builtin "object.__setattr__"))
theorem Cls.get {K:PySem.W.Frag} {C:Addr} (c:Cls K C) (f:Str):ydK K C f=true:=c.pg
def NoAttr (K:PySem.W.Frag) (C:Addr) (f:Str):Prop:=ybt K (.ref C) f=some none
theorem NoAttr.taker {K:PySem.W.Frag} {C:Addr} {f:Str} (n:NoAttr K C f):PySem.W.takerIn K C f=some none:=by
 unfold PySem.W.takerIn
 rw [show ybt K (.ref C) f=some none from n]
 rfl
structure Meth (K:PySem.W.Frag) (C:Addr) (m:Str) (f:Addr):Prop where
 at_:ybt K (.ref C) m=some (some (.ref f))
 fn:yes K (.ref f)=true
 kp:yay K (.ref f)=true
section
variable {X:Cx} {pins:List (Addr×Obj)} {σ:St} {H:Hp} {s:Shared} {a C dx:Addr} {fs:List (Str×V)} {f:Str} {v:V} {A:Around} {E:Value→Shared→Prop}
theorem zjo {b:Bool} {Q:Value→Shared→Prop} (I:Inv X pins σ H s) (e:H a=some (.ins C dx fs)) (c:Cls X.K C) (n:NoAttr X.K C f) (l:fs.lookup f=some v)
  (h:∀ u s',Inv X pins σ H s'→RelV v u→Q u s'):wpAny (model X.prog X.w) A (getAttr (.ref a) f b) Q E s:=by
 obtain ⟨mA,O,r,_,_,_⟩:=zeT I.hok e
 obtain ⟨u,hu,ru⟩:=RelO.some_of (v:=v) (o:=mA f) (by rw [← l];exact r f)
 exact get_map I.kIn O (c.get f) c.hd n hu (handed_of ru) (h u _ (I.tok _) ru)
theorem zfI {m:Str} {g:Addr} {pl:Sem Bool} {Q:Value×List Value→Shared→Prop} (I:Inv X pins σ H s) (e:H a=some (.ins C dx fs)) (c:Cls X.K C) (k:Meth X.K C m g) (l:fs.lookup m=none)
  (h:Q (.ref g,[.ref a]) s):wpAny (model X.prog X.w) A (getMethod (.ref a) m pl) Q E s:=by
 obtain ⟨mA,O,r,_,_,_⟩:=zeT I.hok e
 have hn:mA m=none:=RelO.none_of (by rw [← l];exact r m)
 exact get_meth I.kIn O (c.get m) k.at_ k.fn hn h
theorem zjC {y:V} {u:Value} {Q:Unit→Shared→Prop} (I:Inv X pins σ H s) (e:H a=some (.ins C dx fs)) (c:Cls X.K C) (n:NoAttr X.K C f) (hl:fs.length < 1000) (ry:RelV y u)
  (h:∀ s',Inv X pins σ (upd H a (.ins C dx (putF f y fs))) s'→Q () s'):wpAny (model X.prog X.w) A (setAttr (.ref a) f u) Q E s:=by
 obtain ⟨mA,O,r,wi,_,ho⟩:=zeT I.hok e
 have hz:(fs.map (·.1)).length≤yaW:=by rw [yaa,sizeLine_eq];omega
 refine set_map I.kIn O c.sa c.po n.taker c.hd wi hz fun h' O' sb=>h _ ?_
 have hd:∃ o,h'.get? dx=some o:=let ⟨o,_,_,e',_⟩:=O'.ns;⟨o,e'⟩
 refine I.write (x:=a) (e:=dx) (by rw [e];exact ycp) (.inr ho) (fun b q hb z=>(sb.2 b hb).trans z) hd ?_
 refine ⟨by rw [zar O.ne];exact ho,?_,O.ne,O'.obj,_,O'.ns,fun g => ?_,fun g hg => ?_⟩
 ·have:=zes f y fs;omega
 ·show RelO ((putF f y fs).lookup g) (if g=f then some u else mA g)
  rw [ze3]
  by_cases q:g=f
  ·rw [if_pos q,if_pos q];exact ry
  ·rw [if_neg q,if_neg q];exact r g
 ·by_cases q:g=f
  ·rw [q];exact (zeL f y fs).1
  ·refine (zeL f y fs).2 g (wi g fun z=>hg ?_)
   show (if g=f then some u else mA g)=none
   rw [if_neg q];exact z
theorem Inv.made (I:Inv X pins σ H s):Inv X pins σ (upd (upd H s.heap.objs.size (.own (s.heap.objs.size+1))) (s.heap.objs.size+1) (.ins C s.heap.objs.size []))
  { s with heap:=(s.heap.push yce).push (ycJ C s.heap.objs.size) }:=by
 have e1:(s.heap.push yce).get? s.heap.objs.size=some yce:=yai s.heap rfl
 have e2:((s.heap.push yce).push (ycJ C s.heap.objs.size)).get? (s.heap.objs.size+1)=some (ycJ C s.heap.objs.size):=by
  have:=yai (s.heap.push yce) (o:=ycJ C s.heap.objs.size) rfl
  rwa [ybd] at this
 have e3:(s.heap.push yce).Ns s.heap.objs.size (fun _=>none):=⟨yce,#[],_,e1,rfl,(fun e he=>absurd he (by simp)),fun _=>rfl⟩
 have I1:=I.laid (a:=s.heap.objs.size) (o := .own (s.heap.objs.size+1)) (h':=s.heap.push yce) (t':=s.toks) (fun b u q=>yad _ q) (yag _) ⟨_,e1⟩
 refine I1.laid (a:=s.heap.objs.size+1) (o := .ins C s.heap.objs.size []) (t':=s.toks) (fun b u q=>yad _ q) (Nat.le_of_eq (ybd _ _)) ?_
 have ne:s.heap.objs.size≠s.heap.objs.size+1:=yaF (ybh _)
 refine ⟨by rw [zar ne,zab],ya2 _,ne,e2,fun _=>none,(Heap.Ns1.of_empty e3).at fun o q=>yad _ q,fun _=>ycp,fun y hy=>absurd rfl hy⟩
theorem attr_of {prog:Program} {w:World} {env:Env} {e:Expr} {f:Str} {pos:Pos} {s:Shared} {Q:Value→Shared→Prop} (hb:ydt e f env (eval e env)=eval e env)
  (h:wpAny (model prog w) A (eval e env) (fun o s₁=>wpAny (model prog w) A (getAttr o f true) Q E s₁) E s):wpAny (model prog w) A (eval (.Attribute e f pos) env) Q E s :=
 Attribute_any_ h (by rw [arm_eval_Attribute,hb])
end
def tFld (K:PySem.W.Frag) (ta:TE) (f:Str):TE:=fun σ H Q=>ta σ H fun x H1=>∃ a C dx fs v,x = .ref a∧H1 a=some (.ins C dx fs)∧Cls K C∧NoAttr K C f∧fs.lookup f=some v∧Q v H1
def sFld (K:PySem.W.Frag) (ta tv:TE) (f:Str):TS:=fun D σ H=>tv σ H fun y H1=>ta σ H1 fun x H2=>∃ a C dx fs,x = .ref a∧H2 a=some (.ins C dx fs)∧Cls K C∧NoAttr K C f∧fs.length < 1000 ∧
 D.nx σ (upd H2 a (.ins C dx (putF f y fs)))
section
variable {X:Cx} {o e value:Expr} {f:Str} {pos pos' tpos:Pos} {ta tv:TE}
theorem pe_fld (he:PE X e ta) (hb:ydt e f X.env (eval e X.env)=eval e X.env):PE X (.Attribute e f pos) (tFld X.K ta f):=by
 intro pins s σ H Q I h
 refine attr_of hb (thn (he pins s σ H _ I h) fun u s1 ho_ => ?_)
 obtain ⟨x,H1,I1,rx,a,C,dx,fs,v,ex,ea,c,n,l,q⟩:=ho_
 subst ex
 obtain rfl:u=yaD a:=rx
 exact zjo I1 ea c n l fun u' s2 I2 ru=>⟨v,H1,I2,ru,q⟩
theorem ps_fld (ha:PE X o ta) (hv:PE X value tv) (hs:swapsWith value (some (.Attribute o f pos')) pos.line X.env=pure false):PS X (.Assign [.Attribute o f pos'] value pos) (sFld X.K ta tv f):=by
 intro pins s σ H D I h
 refine plainObj_wpAny_Assign_Attribute (thn (hv pins s σ H _ I h) fun u s1 ⟨y,H1,I1,ry,q⟩=>thn (ha pins s1 σ H1 _ I1 q) fun ov s2 ho_ => ?_) hs
 obtain ⟨x,H2,I2,rx,a,C,dx,fs,ex,ea,c,n,l,q2⟩:=ho_
 subst ex
 obtain rfl:ov=yaD a:=rx
 exact zjC I2 ea c n l ry fun s3 I3=>⟨σ,_,I3,q2⟩
end
section
variable {X:Cx} {pins:List (Addr×Obj)} {σ:St} {H:Hp} {s:Shared} {A:Around} {E:Value→Shared→Prop} {Q:Value→Shared→Prop} {c:Value} {b:Bool}
inductive TyOf (K:PySem.W.Frag) (H:Hp):V→Value→Prop where
 | non:TyOf K H .non (.type "NoneType")
 | bl (x:Bool):TyOf K H (.bl x) (.type "bool")
 | int (i:Int):TyOf K H (.int i) (.type "int")
 | str (x:Str):TyOf K H (.str x) (.type "str")
 | flt (x:UInt64):TyOf K H (.flt x) (.type "float")
 | lst {a:Addr} {xs:List V} (e:H a=some (.lst xs)):TyOf K H (.ref a) (.type "list")
 | frz {a:Addr} {o:Obj} {xs:List V} (e:H a=some (.frz o (.lst xs))):TyOf K H (.ref a) (.type "list")
 | tup {a:Addr} {xs:List V} (e:H a=some (.tup xs)):TyOf K H (.ref a) (.type "tuple")
 | dK {a:Addr} {kvs:List (Key×V)} (e:H a=some (.dK kvs)):TyOf K H (.ref a) (.type "dict")
 | dT {a:Addr} {kvs:List (List Key×V)} (e:H a=some (.dT kvs)):TyOf K H (.ref a) (.type "dict")
 | ins {a C dx:Addr} {fs:List (Str×V)} (e:H a=some (.ins C dx fs)) (cl:Cls K C) (ha:ybt K (.ref C) "__class__" = some (some (.builtin "object.__class__")))
   (hn:PySem.W.specialIn K (.builtin "object.__class__") "__get__" = some (some (.builtin "getset_descriptor.__get__"))) (htk:PySem.W.takesIn K (.builtin "object.__class__")=some true)
   (hm:PySem.W.mroIn K C (.type "object")=some true):TyOf K H (.ref a) (.ref C)
theorem isinst_ok {x:V} {u t:Value} (I:Inv X pins σ H s) (rx:RelV x u) (ty:TyOf X.K H x t) (e:ybA X.K t c=some b) (h:∀ tk,Q (.bool b) { s with toks:=tk }) :
  wpAny (model X.prog X.w) A (call (.builtin "isinstance") [u,c]) Q E s:=by
 cases ty with
 | non=>cases (show u=ycy from rx);exact yb4 PySem.W.kitx_none I.kIn ycp e (fun z=>nomatch z) h
 | bl y=>cases (show u=yds y from rx);exact yb4 PySem.W.kitx_bool I.kIn ycp e (fun z=>nomatch z) h
 | int i=>obtain ⟨t,q⟩:=(show ∃ t,u=ycY i t from rx);cases q;exact yb4 PySem.W.kitx_int I.kIn ycp e (fun z=>nomatch z) h
 | str y=>obtain ⟨t,q⟩:=(show ∃ t,u=ydV y t from rx);cases q;exact yb4 PySem.W.kitx_str I.kIn ycp e (fun z=>nomatch z) h
 | flt y=>obtain ⟨t,q⟩:=(show ∃ t,u=Value.float y t from rx);cases q;exact yb4 PySem.W.kitx_float I.kIn ycp e (fun z=>nomatch z) h
 | @lst a xs ea =>
  cases (show u=yaD a from rx)
  obtain ⟨_,_,n,_,h1⟩:=(show ObjOk X.prog X.w H s.heap a (.lst xs) from I.hok a _ ea)
  exact yb4 yed I.kIn ⟨_,h1,rfl⟩ e (fun z=>nomatch z) h
 | @frz a ob xs ea =>
  cases (show u=yaD a from rx)
  obtain ⟨_,_,_,n,_,h1⟩:=(show ObjOk X.prog X.w H s.heap a (.frz ob (.lst xs)) from I.hok a _ ea)
  exact yb4 yed I.kIn ⟨_,h1,rfl⟩ e (fun z=>nomatch z) h
 | @tup a xs ea =>
  cases (show u=yaD a from rx)
  obtain ⟨_,_,_,p⟩:=(show ObjOk X.prog X.w H s.heap a (.tup xs) from I.hok a _ ea)
  obtain ⟨o,h1,h2,_⟩:=p
  exact yb4 PySem.W.kitx_tuple I.kIn ⟨o,h1,h2⟩ e (fun z=>nomatch z) h
 | @dK a kvs ea =>
  cases (show u=yaD a from rx)
  obtain ⟨_,_,vs,_,p⟩:=(show ObjOk X.prog X.w H s.heap a (.dK kvs) from I.hok a _ ea)
  obtain ⟨o,es,ep,h1,h2,_⟩:=p
  exact yb4 yee I.kIn ⟨o,h1,h2.1⟩ e (fun z=>nomatch z) h
 | @dT a kvs ea =>
  cases (show u=yaD a from rx)
  obtain ⟨_,_,xs,_,o,es,ep,h1,h2,_⟩:=(show ObjOk X.prog X.w H s.heap a (.dT kvs) from I.hok a _ ea)
  exact yb4 yee I.kIn ⟨o,h1,h2.1⟩ e (fun z=>nomatch z) h
 | @ins a C dx fs ea cl ha hn htk hm =>
  cases (show u=yaD a from rx)
  obtain ⟨mA,O,_⟩:=zeT I.hok ea
  obtain ⟨od,J,_⟩:=O.look
  exact yb4 (PySem.W.kitx_own (cl.get _) cl.hd ha hn htk hm) I.kIn J e (fun z=>nomatch z) h
end
structure Room (k:Nat) (A:Around):Prop where
 hd:A.handled=none
 dp:A.depth+3*k+5 < recursionLimit
 un:A.units+16*k+200 < cLine
 gd:A.guards=some []
theorem Room.mono {j k:Nat} {A:Around} (r:Room k A) (h:j≤k):Room j A:=⟨r.hd,by have:=r.dp;omega,by have:=r.un;omega,r.gd⟩
theorem Room.deeper {k:Nat} {A:Around} (r:Room (k+1) A) (env:Env):Room k (A.deeper env) :=
 ⟨r.hd,by have:=r.dp;show A.depth+1+3*k+5 < _;omega,by have:=r.un;show A.units+3+16*k+200 < _;omega,r.gd⟩
theorem zjF {A:Around} {C:Addr} {us:List Value} {kw:List (Str×Value)}:(A.under (.builtin "type.__call__" ⟨.ref C :: us,kw⟩)).depth=A.depth+1:=by
 first | rfl | simp [Around.under,Code.weight,Code.isCreation,Code.isGuard,Code.isCaller,Code.frames,Code.isFrame,guardIds]
theorem zjI {A:Around} {C:Addr} {us:List Value} {kw:List (Str×Value)}:(A.under (.builtin "type.__call__" ⟨.ref C :: us,kw⟩)).units=A.units+1:=by
 first | rfl | simp [Around.under,Code.cUnits,Code.frames,Code.isFrame]
theorem Room.make {k:Nat} {A:Around} (r:Room (k+1) A) (C:Addr) (us:List Value) (kw:List (Str×Value)):Room k (A.under (.builtin "type.__call__" ⟨.ref C :: us,kw⟩)) :=
 ⟨r.hd,by have:=r.dp;rw [zjF];omega,by have:=r.un;rw [zjI];omega,r.gd⟩
theorem Room.depth {k:Nat} {A:Around} (r:Room k A):A.depth < recursionLimit:=by have:=r.dp;omega
theorem Room.units {k:Nat} {A:Around} (r:Room k A):A.units+64 < cLine:=by have:=r.un;omega
theorem Room.units0 {k:Nat} {A:Around} (r:Room k A):A.units < cLine:=by have:=r.un;omega
def tNil:TA:=fun _ H Q=>Q [] H
def tCons (ta:TE) (tr:TA):TA:=fun σ H Q=>ta σ H fun x H1=>tr σ H1 fun xs H2=>Q (x :: xs) H2
section
variable {X:Cx} {e:Expr} {es:List Expr} {te:TE} {t:TA} {pos:Pos}
theorem zad:PA X [] tNil:=fun _ _ _ _ H Q I h=>Calls.spliced_nil ⟨[],H,I,.nil,h⟩
theorem zaa (ha:PE X e te) (hr:PA X es t) (hs:ya6 (e :: es) X.env=(false,eval e X.env) :: ya6 es X.env:=by rfl):PA X (e :: es) (tCons te t):=by
 intro pos pins s σ H Q I h
 rw [hs]
 show wpAny _ _ (spliced ((false,eval e X.env) :: yer pos (ya6 es X.env))) _ _ s
 refine Calls.spliced_cons (thn (ha pins s σ H _ I h) fun u s1 ho_ => ?_)
 obtain ⟨x,H1,I1,r1,q1⟩:=ho_
 exact thn (hr pos pins s1 σ H1 _ I1 q1) (by rintro us s2 ⟨xs,H2,I2,r2,q2⟩;exact ⟨x :: xs,H2,I2,.cons r1 r2,q2⟩)
def tTup (t:TA):TE:=fun σ H Q=>t σ H fun xs H1=>xs.length≤yaW∧∀ p,H1 p=none→Q (.ref p) (upd H1 p (.tup xs))
def tLst (t:TA):TE:=fun σ H Q=>t σ H fun xs H1=>xs.length≤yaW∧∀ p,H1 p=none→Q (.ref p) (upd H1 p (.lst xs))
theorem zce {x1} (h:PA X es t):PE X (.Tuple es x1 pos) (tTup t):=by
 intro pins s σ H Q I hq
 refine wpAny_Tuple_spliced (thn (h pos pins s σ H _ I hq) fun us s1 ⟨xs,H1,I1,r,z,q⟩=>⟨by rw [← r.length];exact z,?_⟩)
 have hf:H1 s1.heap.objs.size=none:=I1.hok.fresh (yag _)
 refine ⟨.ref s1.heap.objs.size,upd H1 s1.heap.objs.size (.tup xs),I1.laid (t':=s1.toks) (fun b u e=>yad _ e) (yag _) ?_,rfl,q _ hf⟩
 exact ⟨z,us,r,⟨_,yai _ rfl,rfl,_,rfl⟩⟩
theorem zaS (h:PA X es t):PE X (.List es pos) (tLst t):=by
 intro pins s σ H Q I hq
 refine wpAny_List_spliced (thn (h pos pins s σ H _ I hq) fun us s1 ⟨xs,H1,I1,r,z,q⟩=>⟨by rw [← r.length];exact z,?_⟩)
 have hf:H1 s1.heap.objs.size=none:=I1.hok.fresh (yag _)
 refine ⟨.ref s1.heap.objs.size,upd H1 s1.heap.objs.size (.lst xs),I1.laid (t':=s1.toks) (fun b u e=>yad _ e) (yag _) ?_,rfl,q _ hf⟩
 exact ⟨z,us,0,r,yai _ rfl⟩
end
abbrev Sp:=List V→Hp→VK→XK→Prop
abbrev CXT:=List Env→Hp→Shared→XK→Value→Shared→Prop
structure Env0 (P:Program) (w:World) (K:PySem.W.Frag) (mg:Str→Option Value) (base:Heap) (A:Around) (outer:List Env) (s:Shared) (H:Hp):Prop where
 frames:A.frames=some outer
 mod:Mod K mg base
 bs:∀ b o,base.get? b=some o→s.heap.get? b=some o∧H b=none
 bsz:base.objs.size≤s.heap.objs.size
 funs:s.heap.FunFrames base outer
 frf:∀ b∈frs outer,H b=none
 hok:HOk P w H s.heap
 bare:AllBare s.gens
def CE (outer:List Env) (P:Program) (w:World) (H:Hp) (s:Shared) (Q:VK) (u:Value) (s':Shared):Prop :=
 ∃ v H',s'.os=s.os∧AllBare s'.gens∧Un (frs outer) [] H H' s.heap s'.heap∧HOk P w H' s'.heap∧RelV v u∧Q v H'
def CR (CX:CXT) (outer:List Env) (P:Program) (w:World) (H:Hp) (s:Shared) (Q:VK) (E:XK) (r:Result) (s':Shared):Prop :=
 match r with
 | .ok (.ret u)=>CE outer P w H s Q u s'
 | .ok _=>False
 | .error e=>CX outer H s E e s'
structure FnOk (P:Program) (w:World) (K:PySem.W.Frag) (mg:Str→Option Value) (base:Heap) (CX:CXT) (k:Nat) (f:Addr) (fd:FuncData) (ps:List Str) (sp:Sp):Prop where
 len:∀ vs H Q E,sp vs H Q E→vs.length=ps.length
 run:∀ (A:Around) (outer:List Env) (s:Shared) (H:Hp) (args:Args) (us:List Value) (vs:List V) (Q:VK) (E:XK),Room k A→Env0 P w K mg base A outer s H→BindsTo s fd args (ps.zip us)→Vals vs us→sp vs H Q E →
  ydB (model P w) A (.call (.ref f) args) (CR CX outer P w H s Q E) s
theorem Env0.make {P:Program} {w:World} {K:PySem.W.Frag} {mg:Str→Option Value} {base:Heap} {A:Around} {outer:List Env} {s:Shared} {H:Hp} (e:Env0 P w K mg base A outer s H) (C:Addr) (us:List Value) (kw:List (Str×Value)) :
  Env0 P w K mg base (A.under (.builtin "type.__call__" ⟨.ref C :: us,kw⟩)) outer s H:=⟨by first | exact e.frames | (simpa [Around.under,Code.envs,Code.isFrame,pushEnvs] using e.frames),e.mod,e.bs,e.bsz,e.funs,e.frf,e.hok,e.bare⟩
section
variable {X:Cx} {pins:List (Addr×Obj)} {σ:St} {H:Hp} {s s':Shared}
theorem Inv.env0 (I:Inv X pins σ H s):Env0 X.prog X.w X.K X.mg X.base X.A X.stack s H :=
 ⟨I.ok.frames,I.ok.mod,I.bs,ya1 I.ok.bsz I.sz,I.stack,I.stkFree,I.hok,I.bare⟩
theorem Inv.after {Q:VK} {u:Value} (I:Inv X pins σ H s) (h:CE X.stack X.prog X.w H s Q u s'):EP X pins σ Q u s':=by
 obtain ⟨v,H',os,bare,un,hok,r,q⟩:=h
 obtain ⟨hh,g,d,t,os'⟩:=s'
 obtain rfl:os'=s.os:=os
 exact ⟨v,H',I.call (h':=hh) (g':=g) (d':=d) (t':=t) (ch := []) un hok bare (fun b z=>absurd z (by simp)),r,q⟩
end
def tCall (sp:Sp) (dvs:List V) (E:XK) (t:TA):TE:=fun σ H Q=>t σ H fun vs H1=>sp (vs++dvs) H1 Q E
def tMeth (C:Addr) (m:Str) (sp:Sp) (dvs:List V) (E:XK) (ta:TE) (t:TA):TE:=fun σ H Q=>ta σ H fun x H1=>∃ a dx fs,x = .ref a∧H1 a=some (.ins C dx fs)∧fs.lookup m=none ∧
 t σ H1 fun vs H2=>sp (x :: (vs++dvs)) H2 Q E
def tMake (C:Addr) (sp:Sp) (dvs:List V) (E:XK) (t:TA):TE:=fun σ H Q=>t σ H fun vs H1=>∀ x dx,H1 x=none→H1 dx=none→dx≠x →
 sp (.ref x :: (vs++dvs)) (upd (upd H1 dx (.own x)) x (.ins C dx [])) (fun v H2=>v = .non∧Q (.ref x) H2) E
def Binds (K:PySem.W.Frag) (fd:FuncData) (ps:List Str) (ds:List Value):Prop :=
 ∀ (s:Shared) (us:List Value),K.In s.heap→(us++ds).length=ps.length→BindsTo s fd ⟨us,[]⟩ (ps.zip (us++ds))
theorem Binds.all {K:PySem.W.Frag} {fd:FuncData} {ps:List Str} (h:∀ us:List Value,us.length=ps.length→bindArgs fd ⟨us,[]⟩=pure (ps.zip us)):Binds K fd ps []:=fun s us _ hl=>by
 rw [ycZ] at hl ⊢
 exact .of_eq (h us hl)
def zeN (CX:CXT) (X:Cx) (E:XK):Prop:=∀ (pins:List (Addr×Obj)) (σ:St) (H:Hp) (s:Shared) (e:Value) (s':Shared),Inv X pins σ H s→CX X.stack H s E e s'→X.xe e s'
section
variable {X:Cx} {CX:CXT} {k:Nat} {f C:Addr} {fd:FuncData} {ps:List Str} {sp:Sp} {dvs:List V} {ds:List Value} {E:XK} {x m:Str} {p pos apos:Pos} {e o:Expr} {es:List Expr} {ta:TE} {t:TA}
theorem run_fn {pins:List (Addr×Obj)} {σ:St} {H:Hp} {s:Shared} {Q:VK} {us:List Value} {vs:List V} (F:FnOk X.prog X.w X.K X.mg X.base CX k f fd ps sp) (hr:Room k X.A) (hb:Binds X.K fd ps ds) (hd:Vals dvs ds) (hx:zeN CX X E)
  (I:Inv X pins σ H s) (r:Vals vs us) (h:sp (vs++dvs) H Q E):wpAny (model X.prog X.w) X.A (call (.ref f) us) (EP X pins σ Q) X.xe s:=by
 have r2:Vals (vs++dvs) (us++ds):=r.append hd
 have hl:(us++ds).length=ps.length:=by rw [← r2.length];exact F.len _ _ _ _ h
 refine wpAny_call (ycE (F.run X.A X.stack s H ⟨us,[]⟩ (us++ds) (vs++dvs) Q E hr I.env0 (hb s us I.kIn hl) r2 h) fun r s' hq => ?_)
 cases r with
 | error e=>exact hx pins σ H s e s' I hq
 | ok fl =>
  cases fl with
  | ret u=>exact I.after hq
  | next=>exact ycO hq
  | brk=>exact ycO hq
  | cont=>exact ycO hq
theorem pe_call (F:FnOk X.prog X.w X.K X.mg X.base CX k f fd ps sp) (hr:Room k X.A) (hg:Gl X x) (hm:X.mg x=some (.ref f)) (hk:yay X.K (.ref f)=true) (hb:Binds X.K fd ps ds) (hd:Vals dvs ds) (hx:zeN CX X E)
  (ha:PA X (e :: es) t) (hdb:(x == ("__debug__" : Str))=false:=by decide) (he:ya6 (e :: es) X.env=(false,eval e X.env) :: ya6 es X.env:=by rfl) (hpl:(yer pos (ya6 es X.env)).any (·.1)=false:=by rfl) :
  PE X (.Call (.Name x p) (e :: es) [] pos) (tCall sp dvs E t):=by
 intro pins s σ H Q I h
 refine ydX (zh2 I hg hm ?_ hdb)
 refine yfd (h₀:=X.base) I.ok.mod.kin hk (thn (ha pos pins s σ H _ I h) fun us s1 ⟨vs,H1,I1,r,q⟩=>⟨I1.kIn,?_⟩) he hpl
 exact run_fn F hr hb hd hx I1 r q
theorem pe_meth {pl:Sem Bool} (he:PE X o ta) (c:Cls X.K C) (hm:Meth X.K C m f) (F:FnOk X.prog X.w X.K X.mg X.base CX k f fd ps sp) (hr:Room k X.A) (hb:Binds X.K fd ps ds) (hd:Vals dvs ds) (hx:zeN CX X E) (ha:PA X (e :: es) t)
  (hst:ya6 (e :: es) X.env=(false,eval e X.env) :: ya6 es X.env:=by rfl) (hpl:(yer pos (ya6 es X.env)).any (·.1)=false:=by rfl)
  (ht:eval (.Call (.Attribute o m apos) (e :: es) [] pos) X.env=(do
   let ov ← eval o X.env
   standAt apos.atName
   let (f,first) ← holding [ov] (getMethod ov m pl)
   callWith pos f first (yer pos (ya6 (e :: es) X.env)) (backToKw pos (yeT [] X.env))):=by rfl) :
  PE X (.Call (.Attribute o m apos) (e :: es) [] pos) (tMeth C m sp dvs E ta t):=by
 intro pins s σ H Q I h
 refine PySem.W.methodCall_KW (pl:=pl) (thn (he pins s σ H _ I h) fun u s1 ho_ => ?_) ht
 obtain ⟨x,H1,I1,rx,a,dx,fs,ex,ea,l,q⟩:=ho_
 subst ex
 obtain rfl:u=yaD a:=rx
 refine zfI I1 ea c hm l ?_
 refine yfd (first := [.ref a]) (h₀:=X.base) I.ok.mod.kin hm.kp (thn (ha pos pins s1 σ H1 _ I1 q) fun us s2 ⟨vs,H2,I2,r,q2⟩=>⟨I2.kIn,?_⟩) hst hpl
 exact run_fn (us := .ref a :: us) (vs := .ref a :: vs) F hr hb hd hx I2 (.cons rfl r) q2
theorem pe_meth0 {pl:Sem Bool} (he:PE X o ta) (c:Cls X.K C) (hm:Meth X.K C m f) (F:FnOk X.prog X.w X.K X.mg X.base CX k f fd ps sp) (hr:Room k X.A) (hb:Binds X.K fd ps ds) (hd:Vals dvs ds) (hx:zeN CX X E)
  (ht:eval (.Call (.Attribute o m apos) [] [] pos) X.env=(do
   let ov ← eval o X.env
   standAt apos.atName
   let (f,first) ← holding [ov] (getMethod ov m pl)
   callWith pos f first (yer pos (ya6 [] X.env)) (backToKw pos (yeT [] X.env))):=by rfl) :
  PE X (.Call (.Attribute o m apos) [] [] pos) (tMeth C m sp dvs E ta tNil):=by
 intro pins s σ H Q I h
 refine PySem.W.methodCall_KW (pl:=pl) (thn (he pins s σ H _ I h) fun u s1 ho_ => ?_) ht
 obtain ⟨x,H1,I1,rx,a,dx,fs,ex,ea,l,q⟩:=ho_
 subst ex
 obtain rfl:u=yaD a:=rx
 refine zfI I1 ea c hm l ?_
 exact PySem.W.callWith_K0 (first := [.ref a]) I1.kIn hm.kp (run_fn (us := [.ref a]) (vs := [.ref a]) F hr hb hd hx I1 (.cons rfl .nil) q)
structure Mk (K:PySem.W.Frag) (C f:Addr):Prop where
 makes:PySem.W.makesIn K C=true
 init:ybt K (.ref C) "__init__" = some (some (.ref f))
 fn:yes K (.ref f)=true
 kp:yay K (.ref C)=true
theorem run_make {pins:List (Addr×Obj)} {σ:St} {H:Hp} {s:Shared} {Q:VK} {us:List Value} {vs:List V} (M:Mk X.K C f) (F:FnOk X.prog X.w X.K X.mg X.base CX k f fd ps sp) (hr:Room (k+1) X.A) (hb:Binds X.K fd ps ds) (hd:Vals dvs ds)
  (hx:zeN CX X E) (I:Inv X pins σ H s) (r:Vals vs us)
  (h:∀ x dx,H x=none→H dx=none→dx≠x→sp (.ref x :: (vs++dvs)) (upd (upd H dx (.own x)) x (.ins C dx [])) (fun v H2=>v = .non∧Q (.ref x) H2) E) :
  wpAny (model X.prog X.w) X.A (call (.ref C) us) (EP X pins σ Q) X.xe s:=by
 have hq:=h (s.heap.objs.size+1) s.heap.objs.size (I.hok.fresh (ycA _)) (I.hok.fresh (yag _)) (yaF (ybh _))
 have I2:=Inv.made (C:=C) I
 have r2:Vals (V.ref (s.heap.objs.size+1) :: (vs++dvs)) (yaD (s.heap.objs.size+1) :: (us++ds)) := .cons rfl (r.append hd)
 have hl:(yaD (s.heap.objs.size+1) :: us++ds).length=ps.length:=by
  have e:=r2.length
  rw [F.len _ _ _ _ hq] at e
  exact e.symm
 refine wpAny_call (make_map (f:=f) I.kIn M.makes M.init (beq_iff_eq.mp M.fn) (ycE (F.run _ X.stack _ _ ⟨yaD (s.heap.objs.size+1) :: us,[]⟩ (yaD (s.heap.objs.size+1) :: (us++ds)) _ _ E (hr.make C us [])
  (I2.env0.make C us []) (hb _ (yaD (s.heap.objs.size+1) :: us) I2.kIn hl) r2 hq) fun r s' hq' => ?_))
 cases r with
 | error e=>exact hx pins σ _ _ e s' I2 hq'
 | ok fl =>
  cases fl with
  | ret u =>
   obtain ⟨v,H',I3,rv,ev,q3⟩:=I2.after hq'
   subst ev
   exact ⟨rv,⟨V.ref (s.heap.objs.size+1),H',I3,rfl,q3⟩⟩
  | next=>exact ycO hq'
  | brk=>exact ycO hq'
  | cont=>exact ycO hq'
theorem pe_make (M:Mk X.K C f) (F:FnOk X.prog X.w X.K X.mg X.base CX k f fd ps sp) (hr:Room (k+1) X.A) (hg:Gl X x) (hm:X.mg x=some (.ref C)) (hb:Binds X.K fd ps ds) (hd:Vals dvs ds) (hx:zeN CX X E)
  (ha:PA X (e :: es) t) (hdb:(x == ("__debug__" : Str))=false:=by decide) (he:ya6 (e :: es) X.env=(false,eval e X.env) :: ya6 es X.env:=by rfl) (hpl:(yer pos (ya6 es X.env)).any (·.1)=false:=by rfl) :
  PE X (.Call (.Name x p) (e :: es) [] pos) (tMake C sp dvs E t):=by
 intro pins s σ H Q I h
 refine ydX (zh2 I hg hm ?_ hdb)
 refine yfd (h₀:=X.base) I.ok.mod.kin M.kp (thn (ha pos pins s σ H _ I h) fun us s1 ⟨vs,H1,I1,r,q⟩=>⟨I1.kIn,?_⟩) he hpl
 exact run_make M F hr hb hd hx I1 r q
end
section
variable {X:Cx} {CX:CXT} {k:Nat} {f C:Addr} {fd:FuncData} {ps ks:List Str} {sp:Sp} {E:XK} {x m:Str} {p pos apos kpos:Pos} {e o:Expr} {es:List Expr} {kws:List Keyword} {te ta:TE} {t tk:TA} {nm:Option Str}
variable {g:List Value→List Value→List Value} {gV:List V→List V→List V}
end
structure FnScope (N P:List Str) (sc:Scope):Prop where
 kind:sc.kind = .function
 co:sc.isCoroutine=false
 gen:sc.isGenerator=false
 nd:N.Nodup
 pre:N.take P.length=P
 par:∀ x∈P,sc.names.lookup x=some .local∨sc.names.lookup x=some .cell
 nofree:∀ y∈sc.names,y.2 ≠ .free
theorem zgv {yfe:Str→Option NameKind} {x:Str}:∀ {binds:List (Str×Value)} {m:Str→Option Value},(∀ v,(x,v)∉binds)→bindL yfe binds m x=m x
 | [],_,_=>rfl
 | (n,v) :: r,m,h=>by
  unfold bindL
  rw [zgv fun w hw=>h w (yap _ hw)]
  split
  ·have:x≠n:=by rintro rfl;exact h v yat
   simp [this]
  ·rfl
theorem zgy {yfe:Str→Option NameKind} {x:Str}:∀ {binds:List (Str×Value)} {m:Str→Option Value},(∀ v,(x,v)∉binds)→bindC yfe binds m x=m x
 | [],_,_=>rfl
 | (n,v) :: r,m,h=>by
  unfold bindC
  rw [zgy fun w hw=>h w (yap _ hw)]
  split
  ·rfl
  ·have:x≠n:=by rintro rfl;exact h v yat
   simp [this]
theorem zgA {yfe:Str→Option NameKind} {x:Str} {v:Value}:∀ {P:List Str} {vs:List Value} {i:Nat} {m:Str→Option Value},P.Nodup→P[i]? = some x→vs[i]? = some v→yfe x=some .local →
  bindL yfe (P.zip vs) m x=some v
 | [],_,_,_,_,h,_,_=>by simp at h
 | _ :: _,[],_,_,_,_,h,_=>by simp at h
 | p :: P,w :: vs,0,m,nd,h1,h2,hk=>by
  simp at h1 h2;subst h1;subst h2
  show bindL yfe ((p,w) :: P.zip vs) m p=_
  unfold bindL
  rw [zgv fun v hv=>(yb5.mp nd).1 (yeU hv).1,if_pos hk]
  simp
 | p :: P,w :: vs,i+1,m,nd,h1,h2,hk=>by
  show bindL yfe ((p,w) :: P.zip vs) m x=_
  unfold bindL
  exact zgA (i:=i) (yb5.mp nd).2 (by simpa using h1) (by simpa using h2) hk
theorem zhh {yfe:Str→Option NameKind} {x:Str} {v:Value}:∀ {P:List Str} {vs:List Value} {i:Nat} {m:Str→Option Value},P.Nodup→P[i]? = some x→vs[i]? = some v→yfe x≠some .local →
  bindC yfe (P.zip vs) m x=some v
 | [],_,_,_,_,h,_,_=>by simp at h
 | _ :: _,[],_,_,_,_,h,_=>by simp at h
 | p :: P,w :: vs,0,m,nd,h1,h2,hk=>by
  simp at h1 h2;subst h1;subst h2
  show bindC yfe ((p,w) :: P.zip vs) m p=_
  unfold bindC
  rw [zgy fun v hv=>(yb5.mp nd).1 (yeU hv).1,if_neg hk]
  simp
 | p :: P,w :: vs,i+1,m,nd,h1,h2,hk=>by
  show bindC yfe ((p,w) :: P.zip vs) m x=_
  unfold bindC
  exact zhh (i:=i) (yb5.mp nd).2 (by simpa using h1) (by simpa using h2) hk
def start (N:List Str) (vs:List V):St:=vs.map some++List.replicate (N.length - vs.length) none
def cxOf (CX:CXT) (P:Program) (w:World) (K:PySem.W.Frag) (mg:Str→Option Value) (base:Heap) (N:List Str) (qual:Str) (scope:Scope) (f:Addr) (cd:Value) (A:Around) (outer:List Env) (s:Shared) (H:Hp) (E:XK):Cx where
 prog:=P
 w:=w
 K:=K
 mg:=mg
 base:=base
 A:=A.deeper (envOfC qual scope s.heap.objs.size f cd)
 N:=N
 s₀:=s
 H₀:=H
 env:=envOfC qual scope s.heap.objs.size f cd
 outer:=outer
 stack:=envOfC qual scope s.heap.objs.size f cd :: outer
 ex := []
 calm:=true
 fn:=fun _=>true
 pn := []
 xe:=fun e s'=>wpAny (model P w) (A.deeper (envOfC qual scope s.heap.objs.size f cd)) (leaving (envOfC qual scope s.heap.objs.size f cd) e) (fun _ s''=>CX outer H s E e s'') (fun e' s''=>CX outer H s E e' s'') s'
theorem ziP {sc:Scope} {n:Nat} {x:Str} (h:sc.names.lookup x=some .cell):∃ c,(cellsFrom n sc.names []).lookup x=some c:=by
 have q:=PySem.W.cellsFrom_some sc.names n [] (.inl h)
 exact Option.isSome_iff_exists.mp q
theorem inv_start {CX:CXT} {P:Program} {w:World} {K:PySem.W.Frag} {mg:Str→Option Value} {base:Heap} {N ps:List Str} {qual:Str} {scope:Scope} {f:Addr} {cd:Value} {A:Around} {outer:List Env} {s s1:Shared} {H:Hp} {E:XK} {us:List Value} {vs:List V}
  (S:FnScope N ps scope) (hd:A.handled=none) (e0:Env0 P w K mg base A outer s H) (hl:vs.length=ps.length) (r:Vals vs us)
  (x:InCallC s s.heap.objs.size (bindL (envOfC qual scope s.heap.objs.size f cd).kindOf (ps.zip us) fun _=>none) (cellsFrom (s.heap.objs.size+1) scope.names []) (bindC (envOfC qual scope s.heap.objs.size f cd).kindOf (ps.zip us) fun _=>none) s1) :
  Inv (cxOf CX P w K mg base N qual scope f cd A outer s H E) [] (start N vs) H s1:=by
 have hpl:ps.length≤N.length:=by have:=congrArg ycL S.pre;rw [yaj] at this;omega
 obtain ⟨h1,tk,rfl,hk⟩:=x.done
 have noA:∀ b:Addr,b∉(cxOf CX P w K mg base N qual scope f cd A outer s H E).ex:=fun b z=>absurd (show b∈([]:List Addr) from z) (by simp)
 refine ⟨⟨e0.mod,S.kind,rfl,rfl,yag _,fun y z c h1 h2 => ?_,fun y hy => ?_,fun y c _ h => ?_,fun _=>hd,Around.frames_deeper e0.frames,.inr ⟨rfl,rfl⟩,fun b z=>absurd z (noA b),e0.bs,e0.bsz,fun b _ _=>noA b,fun b z=>absurd z (noA b),e0.funs,e0.frf⟩,
  rfl,e0.bare,Un.kept hk,⟨_,x.toInCall.ns,fun i y v h1 h2 h3 => ?_⟩,fun y c h=>⟨_,x.cell y c h⟩,e0.hok.fresh (yag _),fun y c h => ?_,fun p hp=>absurd (show p∈([]:List (Addr×Obj)) from hp) (by simp),e0.hok.kept hk,?_⟩
 ·exact name_of_addr x.apart (yda h1) (yda h2)
 ·have hy:scope.names.lookup y=some .cell∨scope.names.lookup y=some .free:=hy
  rcases hy with hy | hy
  ·exact ziP hy
  ·exact absurd rfl (S.nofree _ (yda hy))
 ·exact ybs (x.above y c (yda h))
 ·have hi:i < vs.length:=by
   unfold start at h2
   by_cases hi:i < vs.length
   ·exact hi
   ·rw [ybJ (by simpa using hi)] at h2
    rw [List.getElem?_replicate] at h2
    split at h2 <;> cases h2
  have ha:vs[i]? = some v:=by
   unfold start at h2
   rw [ydC (by simpa using hi),yae] at h2
   cases e:vs[i]? with
   | none=>rw [e] at h2;cases h2
   | some a=>rw [e] at h2;cases h2;rfl
  obtain ⟨u,hu,rv⟩:=r.get ha
  have hp:ps[i]? = some y:=by
   rw [← S.pre,List.getElem?_take_of_lt (by omega)];exact h1
  have ndP:ps.Nodup:=by rw [← S.pre];exact S.nd.sublist (yfB _ _)
  refine ⟨u,rv,?_⟩
  rcases S.par y (ycm hp) with k | k
  ·exact .inl ⟨k,zgA ndP hp hu k⟩
  ·obtain ⟨c,e⟩:=ziP (n:=s.heap.objs.size+1) k
   refine .inr ⟨.inl k,c,e,?_⟩
   have q:=x.cell y c e
   rw [zhh ndP hp hu (by show scope.names.lookup y≠_;rw [k];decide)] at q
   exact q
 ·exact e0.hok.fresh (ybs (x.above y c (yda h)))
 ·unfold start
  show _=N.length
  rw [yao,yaa,yet]
  omega
theorem fn_of {CX:CXT} {P:Program} {w:World} {K:PySem.W.Frag} {mg:Str→Option Value} {base:Heap} {k:Nat} {f:Addr} {name qual:Str} {params:Arguments} {body:List Stmt} {scope:Scope} {dV kV doc pm cdv ct oc:Value} {an od:Option Addr}
  {osl:Array (Option Value)} {N ps:List Str} {sp:Sp} (lk:K.lookup f=some ⟨oc,od,.func (yaI name qual params body scope dV kV doc pm an cdv ct),osl⟩) (hcd:yaE K cdv qual=true) (S:FnScope N ps scope)
  (len:∀ vs H Q E,sp vs H Q E→vs.length=ps.length)
  (hbody:∀ (A:Around) (outer:List Env) (s:Shared) (H:Hp) (vs:List V) (Q:VK) (E:XK),Room k (A.deeper (envOfC qual scope s.heap.objs.size f cdv))→sp vs H Q E →
   ∃ t,PSs (cxOf CX P w K mg base N qual scope f cdv A outer s H E) body t∧t { nx:=fun _ H'=>Q .non H',rt:=Q } (start N vs) H) :
  FnOk P w K mg base CX (k+1) f (yaI name qual params body scope dV kV doc pm an cdv ct) ps sp:=by
 refine ⟨len,fun A outer s H args us vs Q E hr e0 hb r hsp => ?_⟩
 have hl:=len _ _ _ _ hsp
 have KX:K.In s.heap:=e0.mod.kin.keeps fun b o e=>(e0.bs b o e).1
 have lim:s.heap.NoLimit:=e0.mod.nolimit.keeps fun b o e=>(e0.bs b o e).1
 have hkind:∀ y∈ps.zip us,scope.names.lookup y.1=some .local∨(scope.names.lookup y.1=some .cell∧((cellsFrom (s.heap.objs.size+1) scope.names []).lookup y.1).isSome=true):=by
  rintro ⟨n,v⟩ hy
  rcases S.par n (yeU hy).1 with q | q
  ·exact .inl q
  ·exact .inr ⟨q,PySem.W.cellsFrom_some _ _ _ (.inl q)⟩
 refine codeAny_call_function hr.depth (KX _ _ lk) rfl S.co S.gen rfl (PySem.W.codeRec_of KX hcd) (hb _ _ _ _ ?_)
 refine wpAny_newFunctionEnv_cells S.kind hkind fun env he s1 x => ?_
 subst he
 refine ⟨lim.keeps x.toInCall.keep,codeAny_func ?_⟩
 obtain ⟨t,ht,hq⟩:=hbody A outer s H vs Q E (hr.deeper _) hsp
 have I:Inv (cxOf CX P w K mg base N qual scope f cdv A outer s H E) [] (start N vs) H s1:=inv_start S hr.hd e0 hl r x
 refine ycb (ht [] s1 (start N vs) H _ I hq) (fun fl s' hs => ?_) fun e s' hs=>hs
 have fin:∀ {σ':St} {H':Hp} {v:V} {u:Value},Inv (cxOf CX P w K mg base N qual scope f cdv A outer s H E) [] σ' H' s'→RelV v u→Q v H'→CE outer P w H s Q u s' :=
  fun {σ' H' v u} J rv q=>⟨v,H',J.os,J.bare,J.base,J.hok,rv,q⟩
 cases fl with
 | ret u =>
  obtain ⟨v,σ',H',J,rv,q⟩:=hs
  exact fin J rv q
 | next =>
  obtain ⟨σ',H',J,q⟩:=hs
  exact fin (v:=V.non) (u:=ycy) J rfl q
 | brk =>
  obtain ⟨_,_,_,q⟩:=hs
  exact ycO q
 | cont =>
  obtain ⟨_,_,_,q⟩:=hs
  exact ycO q
section
variable {X:Cx} {x:Str} {p pos:Pos} {e:Expr} {es:List Expr} {t:TA} {id T:String} {r:List V→Hp→VK→Prop}
def tCB (r:List V→Hp→VK→Prop) (t:TA):TE:=fun σ H Q=>t σ H fun vs H1=>r vs H1 Q
theorem zak (hc:CallR X (.builtin id) r) (hg:Gl X x) (hm:X.mg x=none) (hv:ybw x=some (.builtin id)) (ha:PA X (e :: es) t) (hn:x ≠ "__name__":=by decide) (hdb:(x == ("__debug__" : Str))=false:=by decide)
  (he:ya6 (e :: es) X.env=(false,eval e X.env) :: ya6 es X.env:=by rfl) (hpl:(yer pos (ya6 es X.env)).any (·.1)=false:=by rfl):PE X (.Call (.Name x p) (e :: es) [] pos) (tCB r t):=by
 intro pins s σ H Q I h
 refine ydX (zfK I hg hm hv ?_ hn hdb)
 exact PyProof.Rows.callWith_builtin1 (thn (ha pos pins s σ H _ I h) (by rintro us s1 ⟨vs,H1,I1,r1,q1⟩;exact hc pins s1 σ H1 vs us Q I1 r1 q1)) he hpl
theorem zav (hc:CallR X (.type T) r) (hg:Gl X x) (hm:X.mg x=none) (hv:ybw x=some (.type T)) (ha:PA X (e :: es) t) (hn:x ≠ "__name__":=by decide) (hdb:(x == ("__debug__" : Str))=false:=by decide)
  (he:ya6 (e :: es) X.env=(false,eval e X.env) :: ya6 es X.env:=by rfl) (hpl:(yer pos (ya6 es X.env)).any (·.1)=false:=by rfl):PE X (.Call (.Name x p) (e :: es) [] pos) (tCB r t):=by
 intro pins s σ H Q I h
 refine ydX (zfK I hg hm hv ?_ hn hdb)
 exact ycK (thn (ha pos pins s σ H _ I h) (by rintro us s1 ⟨vs,H1,I1,r1,q1⟩;exact hc pins s1 σ H1 vs us Q I1 r1 q1)) he hpl
end
end L2
namespace HT
open PySem PyProof.Rows
section
open PySem.SeqAt
open PySem.AutoSeq1 (wpAny_loadPart')
open PySem.MeetsSeq PySem.MeetsSeq2 PySem.MeetsSeq3
end
section
variable {prog:Program} {w:World} {A:Around} {E:Value→Shared→Prop} {s:Shared}
def sIx (n d:Nat):Option Int→Nat
 | none=>d
 | some v=>if v < 0 then (v+(n:Int)).toNat else min v.toNat n
theorem sIx_nat (n d k:Nat):sIx n d (some (k:Int))=min k n:=by
 show (if (k:Int) < 0 then ((k:Int)+(n:Int)).toNat else min (k:Int).toNat n)=min k n
 rw [if_neg (by omega),ybO]
theorem sIx_le (n d:Nat) (hd:d≤n) (o:Option Int):sIx n d o≤n:=by
 cases o with
 | none=>exact hd
 | some v =>
  show (if v < 0 then (v+(n:Int)).toNat else min v.toNat n)≤n
  by_cases hv:v < 0
  ·rw [if_pos hv];omega
  ·rw [if_neg hv];exact Nat.min_le_right _ _
theorem clip_eq (v:Int) (n d:Nat):(if v < 0 then max (v+(n:Int)) 0 else min v (n:Int))=((sIx n d (some v):Nat):Int):=by
 show (if v < 0 then max (v+(n:Int)) 0 else min v (n:Int))=(((if v < 0 then (v+(n:Int)).toNat else min v.toNat n):Nat):Int)
 by_cases hv:v < 0
 ·simp only [if_pos hv];omega
 ·simp only [if_neg hv];omega
theorem zjN (lo hi:Option Int) (n:Nat):ydD lo hi 1 (n:Int)=(((sIx n 0 lo:Nat):Int),((sIx n n hi:Nat):Int)):=by
 have h1:¬ ((1:Int) < 0):=by omega
 unfold ydD
 simp only [h1,if_false]
 refine Prod.ext ?_ ?_
 ·cases lo with
  | none=>rfl
  | some v=>exact clip_eq v n 0
 ·cases hi with
  | none=>rfl
  | some v=>exact clip_eq v n n
theorem zjJ (i j:Nat):ycV (i:Int) (j:Int) 1=j - i:=by
 unfold ycV
 have h1:(1:Int) > 0:=by omega
 simp only [h1,if_true,Int.ediv_one]
 split <;> omega
theorem zfC {v:Value} {o:Option Int} {Q:Option Int→Shared→Prop} (p:IsPart v o) (h:Q o s):wpAny (model prog w) A (Builtin.Slice.slicePartIndex v) Q E s:=by
 cases p with
 | none=>exact slicePart_none h
 | int i t=>exact slicePart_int h
theorem zeb {sl:Addr} {vl vu:Value} {lo hi:Option Int} {n:Nat} {Q:Int×Int×Nat→Shared→Prop} (hs:s.heap.IsSliceOf sl vl vu .none) (pl:IsPart vl lo) (pu:IsPart vu hi)
  (h:Q (((sIx n 0 lo:Nat):Int),1,sIx n n hi - sIx n 0 lo) s):wpAny (model prog w) A (Builtin.Slice.sliceApplied (.ref sl) (pure (n:Int))) Q E s:=by
 obtain ⟨os,hos,hcs,hds⟩:=id hs
 unfold Builtin.Slice.sliceApplied Builtin.Slice.sliceFields
 refine yac (yac (ycW hos hds (x:=vl) rfl (yac (ycW hos hds (x:=vu) rfl (yac (ycW hos hds (x := .none) rfl (yaf ?_)))))))
 refine yac (slicePart_none ?_)
 show wpAny _ _ (if ((1:Int) == 0)=true then _ else _) _ _ s
 rw [if_neg (by decide)]
 refine yac (zfC pl (yac (zfC pu (yac (yaf ?_)))))
 show wpAny _ _ (match ydD lo hi 1 (n:Int) with | (lo,hi)=>pure (lo,(1:Int),ycV lo hi 1)) _ _ s
 rw [zjN lo hi n]
 show wpAny _ _ (pure (((sIx n 0 lo:Nat):Int),(1:Int),ycV ((sIx n 0 lo:Nat):Int) ((sIx n n hi:Nat):Int) 1)) _ _ s
 rw [zjJ]
 exact yaf h
theorem pick_gen (xs:Array Value) (i k:Nat):((ycz k).filterMap fun (m:Nat)=>xs[((i:Int)+(m:Int)*1).toNat]?).toArray=((xs.toList.drop i).take k).toArray:=by
 have e:(fun (m:Nat)=>xs[((i:Int)+(m:Int)*1).toNat]?)=fun m=>xs[i+m]?:=by
  funext m
  have:((i:Int)+(m:Int)*1).toNat=i+m:=by omega
  rw [this]
 rw [e]
 have:=pick_run xs i k
 rw [List.filterMap_map] at this
 have e2:((fun x=>xs[x]?) ∘ fun x=>i+x)=fun m=>xs[i+m]?:=rfl
 rw [e2] at this
 rw [this]
theorem getItem_tuple_cut {t sl:Addr} {items:Array Value} {vl vu:Value} {lo hi:Option Int} {Q:Value→Shared→Prop} (ht:IsTup s.heap t items) (hs:s.heap.IsSliceOf sl vl vu .none) (pl:IsPart vl lo) (pu:IsPart vu hi)
  (hw:¬ (sIx items.size 0 lo=0∧sIx items.size items.size hi=items.size))
  (h:Q (.ref s.heap.objs.size) { s with heap:=s.heap.push { cls := .type "tuple",data := .seq ((items.toList.drop (sIx items.size 0 lo)).take (sIx items.size items.size hi - sIx items.size 0 lo)).toArray } })
  (hsz:items.size≤yaW):wpAny (model prog w) A (getItem (.ref t) (.ref sl)) Q E s:=by
 have htake:sizeOk (.seq ((items.toList.drop (sIx items.size 0 lo)).take (sIx items.size items.size hi - sIx items.size 0 lo)).toArray):=by
  show ((items.toList.drop (sIx items.size 0 lo)).take (sIx items.size items.size hi - sIx items.size 0 lo)).toArray.size≤yaW
  rw [yaH,yaj,yaX,yaO]
  omega
 have hj:sIx items.size items.size hi≤items.size:=sIx_le _ _ (yag _) hi
 obtain ⟨os,hos,hcs,hds⟩:=id hs
 have hTs:s.TypeIs (.ref sl) "slice":=⟨os,hos,hcs⟩
 unfold getItem
 try with_reducible refine ya9 ?_
 first | refine yac (yaf ?_) | skip
 refine yac (wpAny_sequenceKey ht.typeIs (by decide) ?_)
 refine yac (ybX (name:=ycf "__getitem__") ht.typeIs yc0
  (ybq yc0 ht.typeIs entry_tuple_getitem ?_ (args_tuple_getitem _ _)))
 show wpAny _ _ (Builtin.Tuple.tupleItemsOf (.ref t) >>= _) _ _ s
 refine yac (tupleItemsOf_ ht ?_)
 refine yac (ycR hTs ?_)
 rw [if_pos (by decide)]
 refine yac (zeb hs pl pu ?_)
 have hno:¬ ((((sIx items.size 0 lo:Nat):Int) == 0&&(1:Int) == 1&&(sIx items.size items.size hi - sIx items.size 0 lo) == items.size)=true):=by
  intro q
  rw [yaL,yaL] at q
  have q1:((sIx items.size 0 lo:Nat):Int)=0:=eq_of_beq q.1.1
  have q2:sIx items.size items.size hi - sIx items.size 0 lo=items.size:=eq_of_beq q.2
  exact hw ⟨by omega,by omega⟩
 show wpAny _ _ (if (((sIx items.size 0 lo:Nat):Int) == 0&&(1:Int) == 1&&(sIx items.size items.size hi - sIx items.size 0 lo) == items.size)=true then _ else _) _ _ s
 rw [if_neg hno,pick_gen]
 first
  | exact yac (m:=yc1 _) (ybu (yaf ⟨_,rfl,yaf h⟩) htake)
  | exact yac (m:=yc1 _) (ybu (yac (yaf (yaf ⟨_,rfl,yaf h⟩))) htake)
  | exact yac (yac (m:=yc1 _) (ybu (yaf (yaf ⟨_,rfl,yaf h⟩)) htake))
  | exact yac (yac (m:=yc1 _) (ybu (yaf ⟨_,rfl,yaf h⟩) htake))
end
end HT
namespace L2
open PySem PySem.Spec PyProof.Rows
abbrev TO:=St→Hp→(Option Int→Hp→Prop)→Prop
def PO (X:Cx) (e:Option Expr) (t:TO):Prop :=
 ∀ (pins:List (Addr×Obj)) (s:Shared) (σ:St) (H:Hp) (Q:Option Int→Hp→Prop),Inv X pins σ H s→t σ H Q →
  wpAny (model X.prog X.w) X.A (evalPart e X.env) (fun u s'=>∃ o H',Inv X pins σ H' s'∧IsPart u o∧Q o H') X.xe s
def tNoPart:TO:=fun _ H Q=>Q none H
def tPart (t:TE):TO:=fun σ H Q=>t σ H fun x H1=>∃ i,x = .int i∧Q (some i) H1
section
variable {X:Cx} {e:Expr} {te:TE} {lo hi:Option Expr} {tl th:TO} {pos p2:Pos}
theorem zaJ:PO X none tNoPart:=by
 intro pins s σ H Q I h
 rw [evalPart_none]
 exact yaf ⟨none,H,I,.none,h⟩
theorem zaB (h:PE X e te):PO X (some e) (tPart te):=by
 intro pins s σ H Q I hw
 rw [evalPart_some]
 refine thn (h pins s σ H _ I hw) fun u s1 ho_ => ?_
 obtain ⟨x,H1,I1,r1,q1⟩:=ho_
 obtain ⟨i,rfl,q⟩:=q1
 obtain ⟨t,rfl⟩:=r1
 exact ⟨some i,H1,I1,.int i t,q⟩
def SlR (X:Cx) (r:V→Option Int→Option Int→Hp→VK→Prop):Prop :=
 ∀ (pins:List (Addr×Obj)) (s:Shared) (σ:St) (H:Hp) (x:V) (v vl vu:Value) (lo hi:Option Int) (sl:Addr) (Q:VK),Inv X pins σ H s→RelV x v→s.heap.IsSliceOf sl vl vu .none→IsPart vl lo→IsPart vu hi→r x lo hi H Q →
  ∃ T id,typeLookup (.type T) "__getitem__" = pure (some (.builtin id))∧s.TypeIs v T∧wpAny (model X.prog X.w) X.A (getItem v (.ref sl)) (EP X pins σ Q) X.xe s
def tSl (r:V→Option Int→Option Int→Hp→VK→Prop) (te:TE) (tl th:TO):TE:=fun σ H Q=>te σ H fun x H1=>tl σ H1 fun l H2=>th σ H2 fun u H3=>r x l u H3 Q
theorem zax {r:V→Option Int→Option Int→Hp→VK→Prop} (hr:SlR X r) (he:PE X e te) (hl:PO X lo tl) (hu:PO X hi th):PE X (.Subscript e (.Slice lo hi none p2) pos) (tSl r te tl th):=by
 intro pins s σ H Q I h
 refine Subscript_ (thn (he pins s σ H _ I h) fun v s1 ho_ => ?_)
 obtain ⟨x,H1,I1,r1,q1⟩:=ho_
 refine wpAny_Slice (thn (hl pins s1 σ H1 _ I1 q1) fun vl s2 ⟨l,H2,I2,pl,q2⟩=>thn (hu pins s2 σ H2 _ I2 q2) fun vu s3 ho_ => ?_)
 obtain ⟨u,H3,I3,pu,q3⟩:=ho_
 rw [evalPart_none]
 refine yaf ?_
 have I4:Inv X pins σ H3 { s3 with heap:=s3.heap.push { cls := .type "slice",data := .fields #[vl,vu,.none] } }:=I3.kept (t':=s3.toks) fun b ob q=>yad _ q
 obtain ⟨T,id,hT,ht,hg⟩:=hr pins { s3 with heap:=s3.heap.push { cls := .type "slice",data := .fields #[vl,vu,.none] } } σ H3 x v vl vu l u s3.heap.objs.size Q I4 r1 (Heap.IsSliceOf.new ..) pl pu q3
 show wpAny (model X.prog X.w) X.A (subscriptTail e (.Slice lo hi none p2) v (.ref s3.heap.objs.size)) (EP X pins σ Q) X.xe { s3 with heap:=s3.heap.push { cls := .type "slice",data := .fields #[vl,vu,.none] } }
 exact tail_any (ops := [.ref s3.heap.objs.size,v]) ht hT hg (by with_unfolding_all rfl)
def cutV (xs:List V) (lo hi:Option Int):List V:=(xs.drop (HT.sIx xs.length 0 lo)).take (HT.sIx xs.length xs.length hi - HT.sIx xs.length 0 lo)
theorem ze2 (xs:List V) (lo hi:Option Int):(cutV xs lo hi).length≤xs.length:=by
 unfold cutV
 rw [yaj,yaX]
 omega
def rSlT (K:PySem.W.Frag):V→Option Int→Option Int→Hp→VK→Prop:=fun x lo hi H Q=>∃ a xs,x = .ref a∧SqT K H a xs ∧
 ¬ (HT.sIx xs.length 0 lo=0∧HT.sIx xs.length xs.length hi=xs.length)∧∀ p,H p=none→Q (.ref p) (upd H p (.tup (cutV xs lo hi)))
theorem sl_tup:SlR X (rSlT X.K):=by
 intro pins s σ H x v vl vu lo hi sl Q I rx hs pl pu h
 obtain ⟨a,xs,rfl,hx,hw,q⟩:=h
 cases rx
 obtain ⟨its,r,ht,hz⟩:=I.tuple hx
 have hlen:its.toArray.size=xs.length:=by rw [yaH];exact r.length.symm
 refine ⟨"tuple",_,PyProof.Rows.slot_tuple_getitem.lookup,ht.typeIs,?_⟩
 refine HT.getItem_tuple_cut ht hs pl pu (by rw [hlen];exact hw) ?_ (by rw [hlen];exact hz)
 rw [hlen]
 refine ⟨.ref s.heap.objs.size,_,I.laid (t':=s.toks) (o := .tup (cutV xs lo hi)) (fun b ob q=>yad _ q) (yag _) ?_,rfl,q _ (I.hok.fresh (yag _))⟩
 exact ⟨ya1 (ze2 xs lo hi) hz,_,(r.drop (HT.sIx xs.length 0 lo)).take (HT.sIx xs.length xs.length hi - HT.sIx xs.length 0 lo),IsTup.new _ _⟩
end
def ixN (n:Nat) (i:Int):Option Nat:=if 0≤i then (if i < n then some i.toNat else none) else if -(n:Int)≤i then some (i+n).toNat else none
def atI {α:Type} (xs:List α) (i:Int):Option α:=(ixN xs.length i).bind fun j=>xs[j]?
theorem ixN_seq {n:Nat} {i:Int} {j:Nat} (h:ixN n i=some j):seqIndex? i n=some j∧j < n ∧ -(n:Int)≤i∧i < n:=by
 unfold ixN at h
 by_cases h0:0≤i
 ·rw [if_pos h0] at h
  by_cases h1:i < n
  ·rw [if_pos h1] at h
   have e:i.toNat=j:=yas h
   exact ⟨by rw [seqIndex_of h0 h1,e],by omega,by omega,h1⟩
  ·rw [if_neg h1] at h;cases h
 ·rw [if_neg h0] at h
  by_cases h1 : -(n:Int)≤i
  ·rw [if_pos h1] at h
   have e:(i+n).toNat=j:=yas h
   exact ⟨by rw [seqIndex_neg (by omega) h1,e],by omega,h1,by omega⟩
  ·rw [if_neg h1] at h;cases h
theorem zit {α:Type} {xs:List α} {i:Int} {v:α} (h:atI xs i=some v):∃ j,seqIndex? i xs.length=some j∧xs[j]? = some v∧j < xs.length ∧ -(xs.length:Int)≤i∧i < xs.length:=by
 unfold atI at h
 cases e:ixN xs.length i with
 | none=>rw [e] at h;cases h
 | some j =>
  rw [e] at h
  obtain ⟨h1,h2,h3,h4⟩:=ixN_seq e
  exact ⟨j,h1,h,h2,h3,h4⟩
theorem atI_nat {α:Type} {xs:List α} {j:Nat} {v:α} (h:xs[j]? = some v):atI xs (j:Int)=some v:=by
 have hj:j < xs.length:=(ybj.mp h).1
 have e:ixN xs.length (j:Int)=some j:=by
  unfold ixN
  rw [if_pos (by omega),if_pos (by omega)];simp
 unfold atI;rw [e];exact h
def PlainIx (b:Expr):Prop:=∀ o i,subscripted b false o i=operate [o,i] (getItem o i)
def IxR (X:Cx) (r:R2):Prop :=
 ∀ (value slice:Expr) (pins:List (Addr×Obj)) (s:Shared) (σ:St) (H:Hp) (x y:V) (v u:Value) (Q:VK),Inv X pins σ H s→RelV x v→RelV y u→r x y H Q →
  subscripted slice false v u=operate [v,u] (getItem v u)→wpAny (model X.prog X.w) X.A (subscriptTail value slice v u) (EP X pins σ Q) X.xe s
def MtR (X:Cx) (id:String) (r:V→List V→Hp→VK→Prop):Prop :=
 ∀ (pins:List (Addr×Obj)) (s:Shared) (σ:St) (H:Hp) (x:V) (xs:List V) (v:Value) (us:List Value) (Q:VK),Inv X pins σ H s→RelV x v→Vals xs us→r x xs H Q →
  wpAny (model X.prog X.w) X.A (call (.builtin id) (v :: us)) (EP X pins σ Q) X.xe s
section
variable {X:Cx} {a b:Expr} {ta tb:TE} {pos:Pos}
theorem pe_ix {r:R2} (hr:IxR X r) (ha:PE X a ta) (hb:PE X b tb) (hs:PlainIx b):PE X (.Subscript a b pos) (tOp r ta tb):=by
 intro pins s σ H Q I h
 exact Subscript_ (binT ha hb I h fun v u s2 x y H2 I2 rx ry q=>hr a b pins s2 σ H2 x y v u Q I2 rx ry q (hs _ _))
def rIxL (K:PySem.W.Frag):R2:=fun x y H Q=>∃ p xs i v,x = .ref p∧y = .int i∧SqL K H p xs∧atI xs i=some v∧Q v H
def rIxT (K:PySem.W.Frag):R2:=fun x y H Q=>∃ p xs i v,x = .ref p∧y = .int i∧SqT K H p xs∧atI xs i=some v∧Q v H
def rIxS:R2:=fun x y H Q=>∃ z i c,x = .str z∧y = .int i∧z.length≤yaW∧atI z.cps.toList i=some c∧Q (.str ⟨#[c]⟩) H
theorem ix_list:IxR X (rIxL X.K):=by
 intro value slice pins s σ H x y v u Q I rx ry h hs
 obtain ⟨p,xs,i,z,rfl,rfl,hq,he,q⟩:=h
 cases rx
 obtain ⟨t,rfl⟩:=ry
 obtain ⟨its,r,pl,hz⟩:=I.list hq
 obtain ⟨j,h1,h2,h3,h4,h5⟩:=zit he
 obtain ⟨w,ew,rw'⟩:=r.get h2
 have hl:=r.length
 have hn:=zfE
 have fin:EP X pins σ Q w s:=⟨z,H,I,rw',q⟩
 by_cases h0:0≤i
 ·have hj:i.toNat=j:=by
   rw [seqIndex_of h0 h5] at h1
   exact yas h1
  exact item_listR pl.isList h0 (by omega) (by rw [hj];simpa using ew) fin hs
 ·have hj:(i+(its.toArray.size:Int)).toNat=j:=by
   rw [seqIndex_neg (by omega) h4] at h1
   rw [yaH,← hl]
   exact yas h1
  exact subscriptTail_builtinR (x:=w) pl.isList.typeIs slot_list_getitem.lookup
   (wpAny_getItem_list_neg (Q:=fun r s'=>r=w∧EP X pins σ Q r s') pl.isList (by omega) (by rw [yaH] <;> omega) (by omega) (by rw [hj];simpa using ew) ⟨rfl,fin⟩) hs
theorem ix_tup:IxR X (rIxT X.K):=by
 intro value slice pins s σ H x y v u Q I rx ry h hs
 obtain ⟨p,xs,i,z,rfl,rfl,hq,he,q⟩:=h
 cases rx
 obtain ⟨t,rfl⟩:=ry
 obtain ⟨its,r,pl,hz⟩:=I.tuple hq
 obtain ⟨j,h1,h2,h3,h4,h5⟩:=zit he
 obtain ⟨w,ew,rw'⟩:=r.get h2
 have hl:=r.length
 have hn:=zfE
 have fin:EP X pins σ Q w s:=⟨z,H,I,rw',q⟩
 exact subscriptTail_builtinR (x:=w) pl.typeIs slot_tuple_getitem.lookup
  (getItem_tuple (j:=j) (Q:=fun r s'=>r=w∧EP X pins σ Q r s') pl (by omega) (by omega) (by rw [yaH,← hl];exact h1) (by simpa using ew) ⟨rfl,fin⟩) hs
theorem ix_str:IxR X rIxS:=by
 intro value slice pins s σ H x y v u Q I rx ry h hs
 obtain ⟨z,i,c,rfl,rfl,hz,he,q⟩:=h
 obtain ⟨t,rfl⟩:=rx
 obtain ⟨t',rfl⟩:=ry
 obtain ⟨j,h1,h2,h3,h4,h5⟩:=zit he
 have hl:z.cps.toList.length=z.length:=by simp [Str.length]
 rw [hl] at h1 h4 h5
 have hn:=zfE
 exact tail_any (yfC s z t) slot_str_getitem.lookup (getItem_str (c:=c) (by
  have e1:decide (i < -(2 ^ 63:Int))=false:=decide_eq_false (by omega)
  have e2:decide (i ≥ 2 ^ 63)=false:=decide_eq_false (by omega)
  rw [e1,e2,Bool.or_false]) (by rw [h1];simpa using h2) ⟨.str ⟨#[c]⟩,H,I.tok _,⟨_,rfl⟩,q⟩) hs
theorem zjy (its:List Value) (n j:Nat) (u:Value):ycq (·.setIfInBounds j u) { cls := .type "list",data := .seq its.toArray n } = { cls := .type "list",data := .seq (its.set j u).toArray n }:=by
 simp [ycq]
theorem Inv.lst {pins:List (Addr×Obj)} {σ:St} {H:Hp} {s:Shared} {p:Addr} {xs:List V} (I:Inv X pins σ H s) (h:H p=some (.lst xs)) :
  ∃ (its:List Value) (n:Nat),Vals xs its∧s.heap.get? p=some { cls := .type "list",data := .seq its.toArray n }∧xs.length≤yaW:=by
 obtain ⟨z,its,n,r,e⟩:=I.hok p _ h
 exact ⟨its,n,r,e,z⟩
theorem Inv.lstUpd {pins:List (Addr×Obj)} {σ:St} {H:Hp} {s:Shared} {p:Addr} {xs ys:List V} {its its':List Value} {n n':Nat} {f:Obj→Obj} (I:Inv X pins σ H s) (h:H p=some (.lst xs))
  (ho:s.heap.get? p=some { cls := .type "list",data := .seq its.toArray n }) (hf:f { cls := .type "list",data := .seq its.toArray n } = { cls := .type "list",data := .seq its'.toArray n' }) (r:Vals ys its') (hz:ys.length≤yaW) (t:Nat) :
  Inv X pins σ (upd H p (.lst ys)) { s with heap:=s.heap.update p f,toks:=t }:=by
 have e:(s.heap.update p f).get? p=some { cls := .type "list",data := .seq its'.toArray n' }:=by
  rw [ybS f ho (by rw [hf] <;> rfl),hf]
 refine I.write (x:=p) (e:=p) (by rw [h];trivial) (.inl rfl) (fun b u hb q=>(ybP _ _ (yco hb)).trans q) ⟨_,e⟩ ?_
 exact ⟨hz,its',n',r,e⟩
def rSetL:V→V→V→Hp→(Hp→Prop)→Prop:=fun o i v H Q=>∃ p xs k j,o = .ref p∧i = .int k∧H p=some (.lst xs)∧ixN xs.length k=some j∧Q (upd H p (.lst (xs.set j v)))
theorem ziG:PSet X rSetL:=by
 intro pins s σ H o i v ov iv u Q I ro ri rv h
 obtain ⟨p,xs,k,j,rfl,rfl,hp,hj,q⟩:=h
 cases ro
 obtain ⟨t,rfl⟩:=ri
 obtain ⟨its,n,r,ho,hz⟩:=I.lst hp
 obtain ⟨h1,h2,h3,h4⟩:=ixN_seq hj
 have hl:=r.length
 have hn:=zfE
 have I':Inv X pins σ (upd H p (.lst (xs.set j v))) { s with heap:=s.heap.update p (ycq (·.setIfInBounds j u)) } :=
  I.lstUpd hp ho (zjy its n j u) (r.set rv j) (by rw [yeV];exact hz) s.toks
 by_cases h0:0≤k
 ·have hk:k.toNat=j:=by
   rw [seqIndex_of h0 h4] at h1
   exact yas h1
  exact PySem.W.ki_setAt ho h0 (by omega) (by rw [yaH,← hl];exact h4) (by rw [hk];exact ⟨_,I',q⟩)
 ·have hk:(k+(its.toArray.size:Int)).toNat=j:=by
   rw [seqIndex_neg (by omega) h3] at h1
   rw [yaH,← hl]
   exact yas h1
  exact PySem.W.ki_setBack ho (by omega) (by rw [yaH,← hl];exact h3) (by omega) (by rw [hk];exact ⟨_,I',q⟩)
theorem zg7 (lo hi:Option Int) (n:Nat):(yef lo hi none n).1=((HT.sIx n 0 lo:Nat):Int)∧(yef lo hi none n).2.1=((HT.sIx n n hi:Nat):Int)∧(yef lo hi none n).2.2=1:=by
 refine ⟨?_,?_,rfl⟩
 ·cases lo with
  | none=>simp [yef,HT.sIx]
  | some i =>
   simp only [yef,HT.sIx,Option.getD_none,show (1:Int) > 0 by decide,if_true]
   by_cases h:i < 0
   ·simp only [h,if_true] <;> omega
   ·simp only [h,if_false] <;> omega
 ·cases hi with
  | none=>simp [yef,HT.sIx]
  | some i =>
   simp only [yef,HT.sIx,Option.getD_none,show (1:Int) > 0 by decide,if_true]
   by_cases h:i < 0
   ·simp only [h,if_true] <;> omega
   ·simp only [h,if_false] <;> omega
theorem zgf (its:List Value) (lo hi:Option Int):slicePick its.toArray lo hi none=((its.drop (HT.sIx its.length 0 lo)).take (HT.sIx its.length its.length hi - HT.sIx its.length 0 lo)).toArray:=by
 obtain ⟨h1,h2,h3⟩:=zg7 lo hi its.toArray.size
 unfold slicePick
 rw [h1,h2,h3]
 simp only [sliceRange_one,pick_run,yaH] <;> rfl
def rSlL (K:PySem.W.Frag):V→Option Int→Option Int→Hp→VK→Prop:=fun x lo hi H Q=>∃ a xs,x = .ref a∧SqL K H a xs∧∀ p,H p=none→Q (.ref p) (upd H p (.lst (cutV xs lo hi)))
theorem sl_list:SlR X (rSlL X.K):=by
 intro pins s σ H x v vl vu lo hi sl Q I rx hs pl pu h
 obtain ⟨a,xs,rfl,hx,q⟩:=h
 cases rx
 obtain ⟨its,r,ht,hz⟩:=I.list hx
 have hlen:=r.length
 refine ⟨"list",_,slot_list_getitem.lookup,ht.isList.typeIs,?_⟩
 refine wpAny_getItem_list_slice ht.isList hs pl pu .none (by simp) ?_ (by rw [yaH] <;> omega)
 rw [zgf,← hlen]
 refine ⟨.ref s.heap.objs.size,_,I.laid (t':=s.toks) (o := .lst (cutV xs lo hi)) (fun b ob q=>yad _ q) (yag _) ?_,rfl,q _ (I.hok.fresh (yag _))⟩
 exact ⟨ya1 (ze2 xs lo hi) hz,_,0,(r.drop (HT.sIx xs.length 0 lo)).take (HT.sIx xs.length xs.length hi - HT.sIx xs.length 0 lo),yai _ rfl⟩
def flatV:V→Bool
 | .non=>true
 | .bl _=>true
 | .int _=>true
 | .str _=>true
 | _=>false
def eqV:V→V→Bool
 | .non,.non=>true
 | .bl a,.bl b=>a == b
 | .bl a,.int b=>(if a then 1 else 0) == b
 | .int a,.bl b=>a == (if b then 1 else 0)
 | .int a,.int b=>a == b
 | .str a,.str b=>a == b
 | _,_=>false
theorem zew {A:Around} {s:Shared} {y x:V} {u v:Value} (ry:RelV y u) (rx:RelV x v) (fy:flatV y=true) (fx:flatV x=true):SeqAt.EqAt A s u v (eqV y x):=by
 cases y with
 | non =>
  cases ry
  cases x with
  | non=>cases rx;exact ydY _
  | bl b=>cases rx;exact SeqAt.EqAt.none_bool b
  | int b=>obtain ⟨t,rfl⟩:=rx;exact SeqAt.EqAt.none_int b t
  | str b=>obtain ⟨t,rfl⟩:=rx;exact SeqAt.EqAt.none_str b t
  | _=>exact absurd (show false=true from fx) yaK
 | bl a =>
  cases ry
  cases x with
  | non=>cases rx;exact SeqAt.EqAt.bool_none a
  | bl b=>cases rx;exact SeqAt.EqAt.bool_bool a b
  | int b=>obtain ⟨t,rfl⟩:=rx;exact SeqAt.EqAt.bool_int a b t
  | str b=>obtain ⟨t,rfl⟩:=rx;exact SeqAt.EqAt.bool_str a b t
  | _=>exact absurd (show false=true from fx) yaK
 | int a =>
  obtain ⟨t',rfl⟩:=ry
  cases x with
  | non=>cases rx;exact SeqAt.EqAt.int_none a t'
  | bl b=>cases rx;exact SeqAt.EqAt.int_bool a t' b
  | int b=>obtain ⟨t,rfl⟩:=rx;exact SeqAt.EqAt.int_int a t' b t
  | str b=>obtain ⟨t,rfl⟩:=rx;exact SeqAt.EqAt.int_str a t' b t
  | _=>exact absurd (show false=true from fx) yaK
 | str a =>
  obtain ⟨t',rfl⟩:=ry
  cases x with
  | non=>cases rx;exact SeqAt.EqAt.str_none a t'
  | bl b=>cases rx;exact SeqAt.EqAt.str_bool a t' b
  | int b=>obtain ⟨t,rfl⟩:=rx;exact SeqAt.EqAt.str_int a t' b t
  | str b=>obtain ⟨t,rfl⟩:=rx;exact SeqAt.EqAt.str_str a t' b t
  | _=>exact absurd (show false=true from fx) yaK
 | _=>exact absurd (show false=true from fy) yaK
def eqU (x:V) (u:Value):Bool:=match u with
 | .none=>eqV .non x
 | .bool b=>eqV (.bl b) x
 | .int i _=>eqV (.int i) x
 | .str z _=>eqV (.str z) x
 | _=>false
theorem eqU_of {x y:V} {u:Value} (r:RelV y u) (f:flatV y=true):eqU x u=eqV y x:=by
 cases y with
 | non=>cases r;rfl
 | bl b=>cases r;rfl
 | int i=>obtain ⟨t,rfl⟩:=r;rfl
 | str z=>obtain ⟨t,rfl⟩:=r;rfl
 | _=>exact absurd (show false=true from f) yaK
theorem zeO {x:V}:∀ {xs:List V} {us:List Value},Vals xs us→xs.all flatV=true→us.any (eqU x)=xs.any fun y=>eqV y x
 | _,_,.nil,_=>rfl
 | y :: xs,u :: us,.cons r t,f=>by
  rw [yeI,yaL] at f
  rw [ycS,ycS,eqU_of r f.1,zeO t f.2]
theorem zdN {A:Around} {s:Shared} {x:V} {v:Value} (rx:RelV x v) (fx:flatV x=true):∀ {xs:List V} {us:List Value},Vals xs us→xs.all flatV=true→∀ u∈us,SeqAt.EqAt A s u v (eqU x u)
 | _,_,.nil,_=>fun u hu=>by cases hu
 | y :: xs,u :: us,.cons r t,f=>fun u' hu=>by
  rw [yeI,yaL] at f
  rcases yaN.mp hu with rfl | hu
  ·rw [eqU_of r f.1];exact zew r rx f.1 fx
  ·exact zdN rx fx t f.2 u' hu
def inV (x:V) (xs:List V):Bool:=xs.any fun y=>eqV y x
def rIn (K:PySem.W.Frag) (neg:Bool):R2:=fun x y H Q=>∃ p xs,y = .ref p∧(SqL K H p xs∨SqT K H p xs)∧flatV x=true∧xs.all flatV=true∧Q (.bl (if neg then !inV x xs else inV x xs)) H
theorem op_in_seq:OpR X (ybo .In) (rIn X.K false):=by
 intro pins s σ H x y v u Q I rx ry h
 obtain ⟨p,xs,rfl,hq,fx,fs,q⟩:=h
 cases ry
 rcases hq with hq | hq
 ·obtain ⟨its,r,pl,hz⟩:=I.list hq
  refine SeqAt.in_listAt (eqU x) pl.isList (fun w hw=>zdN rx fx r fs w (by simpa using hw)) ⟨.bl _,H,I,rfl,?_⟩
  rw [show its.toArray.any (eqU x)=its.any (eqU x) by simp,zeO r fs]
  exact q
 ·obtain ⟨its,r,pl,hz⟩:=I.tuple hq
  refine SeqAt.in_tupleAt (eqU x) pl (fun w hw=>zdN rx fx r fs w (by simpa using hw)) ⟨.bl _,H,I,rfl,?_⟩
  rw [show its.toArray.any (eqU x)=its.any (eqU x) by simp,zeO r fs]
  exact q
theorem zhp:OpR X (ybo .NotIn) (rIn X.K true):=by
 intro pins s σ H x y v u Q I rx ry h
 obtain ⟨p,xs,rfl,hq,fx,fs,q⟩:=h
 cases ry
 rcases hq with hq | hq
 ·obtain ⟨its,r,pl,hz⟩:=I.list hq
  refine SeqAt.notIn_listAt (eqU x) pl.isList (fun w hw=>zdN rx fx r fs w (by simpa using hw)) ⟨.bl _,H,I,rfl,?_⟩
  rw [show its.toArray.any (eqU x)=its.any (eqU x) by simp,zeO r fs]
  exact q
 ·obtain ⟨its,r,pl,hz⟩:=I.tuple hq
  refine SeqAt.notIn_tupleAt (eqU x) pl (fun w hw=>zdN rx fx r fs w (by simpa using hw)) ⟨.bl _,H,I,rfl,?_⟩
  rw [show its.toArray.any (eqU x)=its.any (eqU x) by simp,zeO r fs]
  exact q
theorem zgR:CallR X (.builtin "len") (fun xs H Q=>∃ p ys,xs = [.ref p]∧(SqL X.K H p ys∨SqT X.K H p ys)∧Q (.int ys.length) H):=by
 intro pins s σ H xs us Q I r h
 obtain ⟨p,ys,rfl,hq,q⟩:=h
 obtain ⟨u,rfl,rx⟩:=vals1 r
 cases rx
 have hn:=zfE
 rcases hq with hq | hq
 ·obtain ⟨its,r',pl,hz⟩:=I.list hq
  have hlen:=r'.length
  exact Calls.call_len_list pl.isList (by simp only [yaH] <;> omega) ⟨.int ys.length,H,I.tok _,⟨s.toks+1,by rw [yaH,hlen]⟩,q⟩
 ·obtain ⟨its,r',pl,hz⟩:=I.tuple hq
  have hlen:=r'.length
  exact len_tuple pl (by simp only [yaH] <;> omega) ⟨.int ys.length,H,I.tok _,⟨s.toks+1,by rw [yaH,hlen]⟩,q⟩
theorem za8:CallR X (.builtin "len") (fun xs H Q=>∃ z,xs = [.str z]∧z.length≤yaW∧Q (.int z.length) H):=by
 intro pins s σ H xs us Q I r h
 obtain ⟨z,rfl,hz,q⟩:=h
 obtain ⟨u,rfl,t,rfl⟩:=vals1 r
 have hn:=zfE
 exact len_str (by omega) ⟨.int z.length,H,I.tok _,⟨_,rfl⟩,q⟩
theorem CallR.or {f:Value} {r r':List V→Hp→VK→Prop} (h:CallR X f r) (h':CallR X f r'):CallR X f (fun xs H Q=>r xs H Q∨r' xs H Q):=by
 intro pins s σ H xs us Q I rs q
 rcases q with q | q
 ·exact h pins s σ H xs us Q I rs q
 ·exact h' pins s σ H xs us Q I rs q
theorem zhe:CallR X (.type "list") (fun xs H Q=>∃ p ys,xs = [.ref p]∧(SqL X.K H p ys∨SqT X.K H p ys)∧∀ l,H l=none→Q (.ref l) (upd H l (.lst ys))):=by
 intro pins s σ H xs us Q I r h
 obtain ⟨p,ys,rfl,hq,q⟩:=h
 obtain ⟨u,rfl,rx⟩:=vals1 r
 cases rx
 have fin:∀ (its:List Value),Vals ys its→ys.length≤yaW→∀ (h':Heap) (c':Nat),(∀ b o',s.heap.get? b=some o'→h'.get? b=some o') →
   h'.get? s.heap.objs.size=some { cls := .type "list",dict:=none,data := .seq its.toArray c',slots := #[] }→EP X pins σ Q (.ref s.heap.objs.size) { s with heap:=h' }:=fun its r' hz h' c' kp e =>
  ⟨.ref s.heap.objs.size,_,I.laid (t':=s.toks) kp (yag _) (show ObjOk X.prog X.w _ h' _ (.lst ys) from ⟨hz,its,c',r',e⟩),rfl,q _ (I.hok.fresh (yag _))⟩
 rcases hq with hq | hq
 ·obtain ⟨its,r',pl,hz⟩:=I.list hq
  have hlen:=r'.length
  obtain ⟨o,ho,hc,n,hd⟩:=pl.isList
  exact call_list_seq p (.inl rfl) ho hc hd (fun h' c' kp e=>fin its r' hz h' c' kp e) (by simp only [yaH] <;> omega)
 ·obtain ⟨its,r',pl,hz⟩:=I.tuple hq
  have hlen:=r'.length
  obtain ⟨o,ho,hc,n,hd⟩:=pl
  exact call_list_seq p (.inr rfl) ho hc hd (fun h' c' kp e=>fin its r' hz h' c' kp e) (by simp only [yaH] <;> omega)
theorem zf9:CallR X (.type "tuple") (fun xs H Q=>∃ p ys,xs = [.ref p]∧((SqL X.K H p ys∧∀ l,H l=none→Q (.ref l) (upd H l (.tup ys)))∨(SqT X.K H p ys∧Q (.ref p) H))):=by
 intro pins s σ H xs us Q I r h
 obtain ⟨p,ys,rfl,h⟩:=h
 obtain ⟨u,rfl,rx⟩:=vals1 r
 cases rx
 rcases h with ⟨hq,q⟩ | ⟨hq,q⟩
 ·obtain ⟨its,r',pl,hz⟩:=I.list hq
  have hlen:=r'.length
  refine call_tuple_list pl.isList (fun h' kp => ?_) (by simp only [yaH] <;> omega)
  have I1:Inv X pins σ H { s with heap:=h' }:=I.kept (t':=s.toks) kp
  have I2:Inv X pins σ (upd H h'.objs.size (.tup ys)) { s with heap:=h'.push { cls := .type "tuple",data := .seq its.toArray } } :=
   I1.laid (t':=s.toks) (fun b o e=>yad _ e) (yag _) (show ObjOk X.prog X.w _ _ _ (.tup ys) from ⟨hz,its,r',IsTup.new _ _⟩)
  exact ⟨.ref h'.objs.size,_,I2,rfl,q _ (I1.hok.fresh (yag _))⟩
 ·obtain ⟨its,r',pl,hz⟩:=I.tuple hq
  exact call_tuple_same pl ⟨.ref p,H,I,rfl,q⟩
def tyV (K:PySem.W.Frag) (T:String) (x:V) (H:Hp):Prop:=match x with
 | .str _=>T = "str"
 | .int _=>T = "int"
 | .ref p=>(T = "list"∧∃ xs,SqL K H p xs)∨(T = "tuple"∧∃ o,K.lookup p=some o∧o.cls = .type "tuple"∧o.dict=none) ∨
   (T = "dict"∧((∃ kvs,H p=some (.dK kvs))∨∃ kvs,H p=some (.dT kvs)))∨(T = "set"∧∃ S n,H p=some (.set S n))
 | _=>False
theorem tyV_is {pins:List (Addr×Obj)} {σ:St} {H:Hp} {s:Shared} {T:String} {x:V} {v:Value} (I:Inv X pins σ H s) (r:RelV x v) (ty:tyV X.K T x H) :
  s.TypeIs v T∧∀ a,v = .ref a→∃ ob,s.heap.get? a=some ob∧ob.dict=none:=by
 cases x with
 | str z =>
  obtain ⟨t,rfl⟩:=r
  cases (show T = "str" from ty)
  exact ⟨yfC s z t,fun _ e=>nomatch e⟩
 | int i =>
  obtain ⟨t,rfl⟩:=r
  cases (show T = "int" from ty)
  exact ⟨typeIs_int s i t,fun _ e=>nomatch e⟩
 | ref p =>
  cases r
  rcases ty with ⟨rfl,xs,hq⟩ | ⟨rfl,o,hk,hc,hd⟩ | ⟨rfl,hk⟩ | ⟨rfl,S,n,hk⟩
  ·obtain ⟨its,_,pl,_⟩:=I.list hq
   refine ⟨pl.isList.typeIs,fun a e => ?_⟩
   cases e
   obtain ⟨o,n,e,c,hd,_⟩:=pl
   exact ⟨o,e,hd⟩
  ·refine ⟨⟨o,I.kIn p o hk,hc⟩,fun a e => ?_⟩
   cases e
   exact ⟨o,I.kIn _ o hk,hd⟩
  ·have z:∃ o,s.heap.get? p=some o∧o.ExactDict:=by
    rcases hk with ⟨kvs,hk⟩ | ⟨kvs,hk⟩
    ·obtain ⟨_,_,_,_,o,_,_,e,ex,_⟩:=I.hok p _ hk
     exact ⟨o,e,ex⟩
    ·obtain ⟨_,_,_,_,o,_,_,e,ex,_⟩:=I.hok p _ hk
     exact ⟨o,e,ex⟩
   obtain ⟨o,e,ex⟩:=z
   refine ⟨⟨o,e,ex.1⟩,fun a e2 => ?_⟩
   cases e2
   exact ⟨o,e,ex.2.1⟩
  ·obtain ⟨o,_,_,_,e,ex,_⟩:=I.hok p _ hk
   refine ⟨⟨o,e,ex.1⟩,fun a e2 => ?_⟩
   cases e2
   exact ⟨o,e,ex.2.1⟩
 | _=>exact ycO ty
def tBM0 (K:PySem.W.Frag) (T:String) (r:V→List V→Hp→VK→Prop) (to:TE):TE:=fun σ H Q=>to σ H fun x H1=>tyV K T x H1∧r x [] H1 Q
def tBM (K:PySem.W.Frag) (T:String) (r:V→List V→Hp→VK→Prop) (to:TE) (t:TA):TE:=fun σ H Q=>to σ H fun x H1=>tyV K T x H1∧t σ H1 fun xs H2=>r x xs H2 Q
variable {o e:Expr} {es:List Expr} {to:TE} {t:TA} {name:Str} {apos cpos:Pos} {T id:String} {r:V→List V→Hp→VK→Prop}
theorem pe_bm0 (pa:PlainAttrs T) (slot:Slot T name id) (hty:typeOf (.builtin id)=pure (.type "method_descriptor")) (hm:MtR X id r) (ho:PE X o to)
  (hbase:ydt o name X.env (eval o X.env)=eval o X.env:=by rfl) (hline:(apos.endLine == cpos.line)=true:=by rfl):PE X (.Call (.Attribute o name apos) [] [] cpos) (tBM0 X.K T r to):=by
 intro pins s σ H Q I h
 refine wpAny_Call_method0_late hbase hline (thn (ho pins s σ H _ I h) fun v s1 ho_ => ?_)
 obtain ⟨x,H1,I1,r1,ty,q1⟩:=ho_
 obtain ⟨h1,h2⟩:=tyV_is I1 r1 ty
 exact ⟨T,id,pa,slot,hty,h1,h2,Calls.callWith_builtin rfl (PySem.evalArgs_none (hm pins s1 σ H1 x [] v [] Q I1 r1 .nil q1))⟩
theorem pe_bm (pa:PlainAttrs T) (slot:Slot T name id) (hty:typeOf (.builtin id)=pure (.type "method_descriptor")) (hm:MtR X id r) (ho:PE X o to) (ha:PA X (e :: es) t)
  (hbase:ydt o name X.env (eval o X.env)=eval o X.env:=by rfl)
  (hfew:((yer cpos (ya6 (e :: es) X.env)).all (fun x => !x.1)&&(backToKw cpos (yeT [] X.env)).all (fun x=>x.1.isSome)
   && decide ((e :: es).length+([]:List Keyword).length+(if ([]:List Keyword).isEmpty then 0 else 1) < 30))=true:=by rfl)
  (hline:(apos.endLine == cpos.line)=true:=by rfl) (hs:ya6 (e :: es) X.env=(false,eval e X.env) :: ya6 es X.env:=by rfl) (hplain:(yer cpos (ya6 es X.env)).any (·.1)=false:=by rfl) :
  PE X (.Call (.Attribute o name apos) (e :: es) [] cpos) (tBM X.K T r to t):=by
 intro pins s σ H Q I h
 refine wpAny_Call_method_late hbase hfew hline rfl (thn (ho pins s σ H _ I h) fun v s1 ho_ => ?_)
 obtain ⟨x,H1,I1,r1,ty,q1⟩:=ho_
 obtain ⟨h1,h2⟩:=tyV_is I1 r1 ty
 refine ⟨T,id,pa,slot,hty,h1,h2,?_⟩
 have hA:=ha cpos pins s1 σ H1 _ I1 q1
 rw [hs] at hA ⊢
 refine Calls.callWith_builtin (by show (false || (yer cpos (ya6 es X.env)).any (·.1))=false;rw [hplain] <;> rfl) (Calls.evalArgs_plain ?_)
 exact thn hA (by rintro us s2 ⟨vs,H2,I2,r2,q2⟩;exact hm pins s2 σ H2 x vs v us Q I2 r1 r2 q2)
end
def MtM (X:Cx) (id:String) (r:V→List V→Hp→VK→Prop):Prop :=
 ∀ (pins:List (Addr×Obj)) (s:Shared) (σ:St) (H:Hp) (x:V) (xs:List V) (v:Value) (us:List Value) (Q:VK),Inv X pins σ H s→RelV x v→Vals xs us→r x xs H Q →
  wpAny (model X.prog X.w) X.A (call (.builtin id) (v :: us)) (EP X pins σ Q) X.xe s
theorem Vals.one:∀ {x:V} {us:List Value},Vals [x] us→∃ u,us = [u]∧RelV x u
 | _,_,.cons r .nil=>⟨_,rfl,r⟩
theorem Vals.zero:∀ {us:List Value},Vals [] us→us = []
 | _,.nil=>rfl
theorem Vals.eraseIdx:∀ {xs:List V} {us:List Value} (i:Nat),Vals xs us→Vals (xs.eraseIdx i) (us.eraseIdx i)
 | _,_,_,.nil => .nil
 | _,_,0,.cons _ t=>t
 | _,_,i+1,.cons r t => .cons r (Vals.eraseIdx i t)
theorem zhb {α:Type}:∀ (l:List α) (i:Nat),(l.eraseIdx i).length≤l.length
 | [],_=>yag _
 | _ :: _,0=>ycA _
 | _ :: r,i+1=>Nat.succ_le_succ (zhb r i)
section
variable {X:Cx} {pins:List (Addr×Obj)} {σ:St} {H:Hp} {s:Shared} {l b:Addr} {xs ys zs:List V}
theorem Inv.lset {its its':List Value} {n:Nat} {f:Array Value→Array Value} {t':Nat} (I:Inv X pins σ H s) (hH:H l=some (.lst xs))
  (e:s.heap.get? l=some { cls := .type "list",data := .seq its.toArray n }) (hf:f its.toArray=its'.toArray) (hv:Vals ys its') (hz:ys.length≤yaW) :
  Inv X pins σ (upd H l (.lst ys)) { s with heap:=s.heap.update l (ycq f),toks:=t' }:=by
 have q:=PySem.IsL.update e f
 rw [hf] at q
 refine I.write (x:=l) (e:=l) (by rw [hH];exact trivial) (.inl rfl) (fun b' u hb hu=>(ybP s.heap (ycq f) (yco hb)).trans hu) ⟨_,q⟩ ?_
 exact ⟨hz,its',_,hv,q⟩
theorem Inv.lnew {its:List Value} {t':Nat} (I:Inv X pins σ H s) (hv:Vals ys its) (hz:ys.length≤yaW) :
  Inv X pins σ (upd H s.heap.objs.size (.lst ys)) { s with heap:=s.heap.push { cls := .type "list",data := .seq its.toArray },toks:=t' } :=
 I.laid (fun _ _ q=>yad _ q) (yag _) ⟨hz,its,0,hv,yai _ rfl⟩
theorem Inv.fresh (I:Inv X pins σ H s):H s.heap.objs.size=none:=I.hok.fresh (yag _)
theorem Inv.lstM (I:Inv X pins σ H s) (hH:H l=some (.lst xs)):xs.length≤yaW∧∃ (its:List Value) (n:Nat),Vals xs its∧xs.length=its.length∧s.heap.get? l=some { cls := .type "list",data := .seq its.toArray n }:=by
 obtain ⟨z,its,n,r,e⟩:=I.hok l _ hH
 exact ⟨z,its,n,r,r.length,e⟩
theorem notLongL {n:Nat} (h:n≤yaW):ydR n=false:=by
 unfold ydR
 exact decide_eq_false (by omega)
end
section
variable {X:Cx}
def rAppend:V→List V→Hp→VK→Prop:=fun x vs H Q=>∃ l xs y,x = .ref l∧vs = [y]∧H l=some (.lst xs)∧xs.length < yaW∧Q .non (upd H l (.lst (xs ++ [y])))
theorem zbA:MtM X "list.append" rAppend:=by
 intro pins s σ H x vs v us Q I rx rv h
 obtain ⟨l,xs,y,rfl,rfl,hH,hz,q⟩:=h
 cases rx
 obtain ⟨u,rfl,ru⟩:=rv.one
 obtain ⟨z,its,n,r,hl,e⟩:=I.lstM hH
 refine yeg F.slot_list_append ⟨_,e,rfl⟩ F.entry_list_append (F.args_list_append_2 _ _) (PySem.list_append l its.toArray n u (by rw [yaH];omega)) ⟨e,?_⟩
 refine ⟨.non,_,I.lset (its':=its ++ [u]) hH e (by simp) (r.append (.cons ru .nil)) ?_,rfl,q⟩
 rw [yao,ydl]
 omega
def rExtend:V→List V→Hp→VK→Prop:=fun x vs H Q=>∃ l b xs zs,x = .ref l∧vs = [.ref b]∧H l=some (.lst xs)∧H b=some (.lst zs)∧xs.length+zs.length≤yaW∧Q .non (upd H l (.lst (xs++zs)))
theorem ze7:MtM X "list.extend" rExtend:=by
 intro pins s σ H x vs v us Q I rx rv h
 obtain ⟨l,b,xs,zs,rfl,rfl,hH,hB,hz,q⟩:=h
 cases rx
 obtain ⟨u,rfl,ru⟩:=rv.one
 cases ru
 obtain ⟨z,its,n,r,hl,e⟩:=I.lstM hH
 obtain ⟨z2,its2,n2,r2,hl2,e2⟩:=I.lstM hB
 have hsz:its.toArray.size+its2.toArray.size≤yaW:=by rw [yaH,yaH];omega
 have hlong:¬ (!its.toArray.isEmpty&&ydR (its.toArray.size+its2.toArray.size))=true:=by
  rw [notLongL hsz,yfo]
  exact yaK
 refine yeg F.slot_list_extend ⟨_,e,rfl⟩ F.entry_list_extend (F.args_list_extend_2 _ _)
  (AutoSeq1.list_extend_list_list_0 l its.toArray n b its2.toArray n2 hlong (by rw [yaH];omega) (by omega)) ⟨e,e2,?_⟩
 refine ⟨.non,_,I.lset (its':=its++its2) hH e (by simp) (r.append r2) ?_,rfl,q⟩
 rw [yao]
 omega
def rPopAt:V→List V→Hp→VK→Prop:=fun x vs H Q=>∃ l xs i k y,x = .ref l∧vs = [.int i]∧H l=some (.lst xs) ∧ -(2 ^ 63)≤i∧i < 2 ^ 63∧seqIndex? i xs.length=some k∧xs[k]? = some y∧Q y (upd H l (.lst (xs.eraseIdx k)))
theorem mt_popAt:MtM X "list.pop" rPopAt:=by
 intro pins s σ H x vs v us Q I rx rv h
 obtain ⟨l,xs,i,k,y,rfl,rfl,hH,h1,h2,hk,hy,q⟩:=h
 cases rx
 obtain ⟨u,rfl,ru⟩:=rv.one
 obtain ⟨t,rfl⟩:=ru
 obtain ⟨z,its,n,r,hl,e⟩:=I.lstM hH
 obtain ⟨w,hw,rw'⟩:=r.get hy
 refine yeg F.slot_list_pop ⟨_,e,rfl⟩ F.entry_list_pop (F.args_list_pop_2 _ _)
  (MeetsSeq.list_pop_at l its.toArray n i t k w (fitsIndex_both h1 h2) (by rw [yaH,← hl];exact hk) (by rw [← ybI];exact hw) (by rw [yaH];omega)) ⟨e,?_⟩
 refine ⟨y,_,I.lset (its':=its.eraseIdx k) hH e ?_ (r.eraseIdx k) ?_,rw',q⟩
 ·show its.toArray.eraseIdxIfInBounds k=(its.eraseIdx k).toArray
  rw [List.eraseIdxIfInBounds_toArray]
 ·have:=zhb xs k
  omega
def rClear:V→List V→Hp→VK→Prop:=fun x vs H Q=>∃ l xs,x = .ref l∧vs = []∧H l=some (.lst xs)∧Q .non (upd H l (.lst []))
theorem mt_clear:MtM X "list.clear" rClear:=by
 intro pins s σ H x vs v us Q I rx rv h
 obtain ⟨l,xs,rfl,rfl,hH,q⟩:=h
 cases rx
 have hus:=rv.zero
 subst hus
 obtain ⟨z,its,n,r,hl,e⟩:=I.lstM hH
 refine yeg F.slot_list_clear ⟨_,e,rfl⟩ F.entry_list_clear (F.args_list_clear_1 _) (AutoSeq1.list_clear_list_0 l its.toArray n (by rw [yaH];omega)) ⟨e,?_⟩
 exact ⟨.non,_,I.lset (its' := []) (ys := []) hH e rfl .nil (ya2 _),rfl,q⟩
def rCat:R2:=fun x y H Q=>∃ l b xs zs,x = .ref l∧y = .ref b∧H l=some (.lst xs)∧H b=some (.lst zs)∧xs.length+zs.length≤yaW∧∀ p,H p=none→Q (.ref p) (upd H p (.lst (xs++zs)))
theorem zcJ:OpR X (yeH .Add) rCat:=by
 intro pins s σ H x y v u Q I rx ry h
 obtain ⟨l,b,xs,zs,rfl,rfl,hH,hB,hz,q⟩:=h
 cases rx
 cases ry
 obtain ⟨z,its,n,r,hl,e⟩:=I.lstM hH
 obtain ⟨z2,its2,n2,r2,hl2,e2⟩:=I.lstM hB
 refine PySem.P.add_list e e2 ?_ (by rw [yaH,yaH];omega)
 have ea:its.toArray++its2.toArray=(its++its2).toArray:=by simp
 rw [ea]
 exact ⟨.ref _,_,I.lnew (t':=s.toks) (r.append r2) (by rw [yao];omega),rfl,q _ I.fresh⟩
end
section
variable {prog:Program} {w:World} {A:Around} {E:Value→Shared→Prop} {s:Shared}
end
section
variable {X:Cx}
end
section
variable {κ:Type} [DecidableEq κ]
def valV (kvs:List (κ×V)) (k:κ):Option V:=(kvs.find? fun kv=>decide (kv.1=k)).map (·.2)
def putK (kvs:List (κ×V)) (k:κ) (v:V):List (κ×V) :=
 if (kvs.any fun kv=>decide (kv.1=k))=true then kvs.map (fun kv=>if kv.1=k then (kv.1,v) else kv) else kvs ++ [(k,v)]
theorem zdK {p:κ×V} {r:List (κ×V)} {k:κ} (e:p.1=k):valV (p :: r) k=some p.2:=by simp [valV,ydm,e]
theorem zdz {p:κ×V} {r:List (κ×V)} {k:κ} (e:¬ p.1=k):valV (p :: r) k=valV r k:=by simp [valV,ydm,e]
theorem zi9 (k:κ):∀ kvs:List (κ×V),(kvs.any fun kv=>decide (kv.1=k))=(valV kvs k).isSome
 | []=>rfl
 | p :: r=>by
  rw [ycS]
  by_cases e:p.1=k
  ·simp only [zdK e,decide_eq_true e,Bool.true_or,Option.isSome_some]
  ·rw [zdz e,decide_eq_false e,Bool.false_or];exact zi9 k r
theorem zeX (kvs:List (κ×V)) (k:κ) (v:V):(putK kvs k v).length≤kvs.length+1:=by
 unfold putK
 split
 ·rw [yaa];omega
 ·rw [yao,yal,ya5];omega
theorem RelO.isSome_eq {o:Option V} {u:Option Value} (r:RelO o u):o.isSome=u.isSome:=by
 cases o with
 | none=>cases u with
  | none=>rfl
  | some _=>exact (show False from r).elim
 | some _=>cases u with
  | none=>exact (show False from r).elim
  | some _=>rfl
theorem KV.val {kvs:List (κ×V)} {vs:List (κ×Value)} (r:KV kvs vs) (k:κ):RelO (valV kvs k) (valueAt vs k):=by
 unfold KV at r
 induction r with
 | nil=>exact ycp
 | @cons p q ps qs h t ih =>
  obtain ⟨h1,h2⟩:=h
  by_cases e:p.1=k
  ·have e':q.1=k:=h1.symm.trans e
   have b:valueAt (q :: qs) k=some q.2:=by simp [valueAt,ydm,e']
   rw [zdK e,b];exact h2
  ·have e':¬ q.1=k:=fun z=>e (h1.trans z)
   have b:valueAt (q :: qs) k=valueAt qs k:=by simp [valueAt,ydm,e']
   rw [zdz e,b];exact ih
theorem KV.any {kvs:List (κ×V)} {vs:List (κ×Value)} (r:KV kvs vs) (k:κ):(kvs.any fun kv=>decide (kv.1=k))=vs.any fun kv=>decide (kv.1=k):=by
 unfold KV at r
 induction r with
 | nil=>rfl
 | cons h t ih=>rw [ycS,ycS,ih,h.1]
theorem KV.repl {kvs:List (κ×V)} {vs:List (κ×Value)} (r:KV kvs vs) (k:κ) {y:V} {u:Value} (ry:RelV y u) :
  KV (kvs.map fun kv=>if kv.1=k then (kv.1,y) else kv) (vs.map fun kv=>if kv.1=k then (kv.1,u) else kv):=by
 unfold KV at r ⊢
 induction r with
 | nil=>exact .nil
 | @cons p q ps qs h t ih =>
  rw [yan,yan]
  refine .cons ?_ ih
  obtain ⟨h1,h2⟩:=h
  by_cases e:p.1=k
  ·rw [if_pos e,if_pos (h1.symm.trans e)];exact ⟨h1,ry⟩
  ·rw [if_neg e,if_neg (fun z=>e (h1.trans z))];exact ⟨h1,h2⟩
theorem KV.put {kvs:List (κ×V)} {vs:List (κ×Value)} (r:KV kvs vs) (k:κ) {y:V} {u:Value} (ry:RelV y u):KV (putK kvs k y) (stored vs k u):=by
 unfold putK stored
 rw [r.any k]
 by_cases e:(vs.any fun kv=>decide (kv.1=k))=true
 ·rw [if_pos e,if_pos e];exact r.repl k ry
 ·rw [if_neg e,if_neg e];exact Paired.snoc r ⟨rfl,ry⟩
theorem KV.length {kvs:List (κ×V)} {vs:List (κ×Value)} (r:KV kvs vs):kvs.length=vs.length:=yaz r
end
theorem kV_is {P:Program} {w:World} {k:Key} {u:Value} (r:RelV (kV k) u):(za5 P w).is k u=true:=by
 cases k with
 | inl i=>obtain ⟨t,e⟩:=(show ∃ t,u=ycY i t from r);subst e;exact zhM P w i t
 | inr x=>obtain ⟨t,e⟩:=(show ∃ t,u=ydV x t from r);subst e;exact zif P w x t
theorem kV_inj {a b:Key} (e:kV a=kV b):a=b:=by
 cases a with
 | inl i=>cases b with
  | inl j=>have e':V.int i=V.int j:=e;injection e' with e';rw [e']
  | inr y=>exact nomatch (show V.int i=V.str y from e)
 | inr x=>cases b with
  | inl j=>exact nomatch (show V.str x=V.int j from e)
  | inr y=>have e':V.str x=V.str y:=e;injection e' with e';rw [e']
theorem kVs_inj:∀ {a b:List Key},a.map kV=b.map kV→a=b
 | [],[],_=>rfl
 | [],_ :: _,e=>by simp at e
 | _ :: _,[],e=>by simp at e
 | x :: xs,y :: ys,e=>by
  rw [yan,yan] at e
  injection e with e1 e2
  rw [kV_inj e1,kVs_inj e2]
theorem zhr {P:Program} {w:World}:∀ {ks:List Key} {us:List Value},Vals (ks.map kV) us→ItemsAre (za5 P w) ks us
 | [],_,r=>by rw [yeu] at r;cases r;exact .nil
 | k :: ks,_,r=>by
  rw [yan] at r
  cases r with
  | cons h t=>exact .cons (kV_is h) (zhr t)
abbrev KT (H:Hp):List (List Key×V)→List (List Key×Addr×Value)→Prop:=Paired fun p q=>p.1=q.1∧H q.2.1=some (.tup (p.1.map kV))∧RelV p.2 q.2.2
theorem KT.val {H:Hp} {kvs:List (List Key×V)} {xs:List (List Key×Addr×Value)} (r:KT H kvs xs) (k:List Key):RelO (valV kvs k) ((atKey xs k).map (·.2)):=by
 induction r with
 | nil=>exact ycp
 | @cons p q ps qs h t ih =>
  obtain ⟨h1,_,h2⟩:=h
  by_cases e:p.1=k
  ·have e':q.1=k:=h1.symm.trans e
   have b:atKey (q :: qs) k=some q.2:=by simp [atKey,ydm,e']
   rw [zdK e,b];exact h2
  ·have e':¬ q.1=k:=fun z=>e (h1.trans z)
   have b:atKey (q :: qs) k=atKey qs k:=by simp [atKey,ydm,e']
   rw [zdz e,b];exact ih
theorem KT.repl {H:Hp} {kvs:List (List Key×V)} {xs:List (List Key×Addr×Value)} (r:KT H kvs xs) (k:List Key) {y:V} {u:Value} (ry:RelV y u) :
  KT H (kvs.map fun kv=>if kv.1=k then (kv.1,y) else kv) (xs.map (putAt k u)):=by
 induction r with
 | nil=>exact .nil
 | @cons p q ps qs h t ih =>
  rw [yan,yan]
  refine .cons ?_ ih
  obtain ⟨h1,h2,h3⟩:=h
  unfold putAt
  by_cases e:p.1=k
  ·rw [if_pos e,if_pos (h1.symm.trans e)];exact ⟨h1,h2,ry⟩
  ·rw [if_neg e,if_neg (fun z=>e (h1.trans z))];exact ⟨h1,h2,h3⟩
theorem KT.put {H:Hp} {kvs:List (List Key×V)} {xs:List (List Key×Addr×Value)} (r:KT H kvs xs) (k:List Key) {b:Addr} {y:V} {u:Value} (hb:H b=some (.tup (k.map kV))) (ry:RelV y u) :
  KT H (putK kvs k y) (storedH xs k b u):=by
 have e:(kvs.any fun kv=>decide (kv.1=k))=(atKey xs k).isSome:=by
  rw [zi9,(r.val k).isSome_eq,Option.isSome_map]
 unfold putK storedH
 rw [e]
 by_cases q:(atKey xs k).isSome=true
 ·rw [if_pos q,if_pos q];exact r.repl k ry
 ·rw [if_neg q,if_neg q];exact Paired.snoc r ⟨rfl,hb,ry⟩
theorem KT.keeps {H H':Hp} {kvs:List (List Key×V)} {xs:List (List Key×Addr×Value)} (r:KT H kvs xs) (ht:∀ b ys,H b=some (.tup ys)→H' b=some (.tup ys)):KT H' kvs xs :=
 Paired.mapP r fun _ _ z=>⟨z.1,ht _ _ z.2.1,z.2.2⟩
section
variable {P:Program} {w:World} {H:Hp} {h:Heap} {a:Addr}
theorem rd_of {u:HO} (ok:HOk P w H h) (e:Rd H a u):ObjOk P w H h a u:=e.ok ok
theorem dk_rd {kvs:List (Key×V)} (ok:HOk P w H h) (e:Rd H a (.dK kvs)):kvs.length≤yaW∧(a == ydQ)=false∧∃ vs,KV kvs vs∧h.DictOf (za5 P w) a vs :=
 show ObjOk P w H h a (.dK kvs) from rd_of ok e
theorem dk_of {kvs:List (Key×V)} (ok:HOk P w H h) (e:H a=some (.dK kvs)):kvs.length≤yaW∧(a == ydQ)=false∧∃ vs,KV kvs vs∧h.DictOf (za5 P w) a vs:=dk_rd ok (.inl e)
theorem zhC {ks:List Key} (ok:HOk P w H h) (e:H a=some (.tup (ks.map kV))):(tupleKind (za5 P w)).is h ks a:=by
 obtain ⟨_,its,r,o,h1,h2,n,h3⟩:=(show ObjOk P w H h a (.tup (ks.map kV)) from ok a _ e)
 exact ⟨o,its.toArray,n,h1,h2,h3,by simpa using zhr r⟩
theorem dt_rd {kvs:List (List Key×V)} (ok:HOk P w H h) (e:Rd H a (.dT kvs)):kvs.length≤yaW∧(a == ydQ)=false ∧
  ∃ xs,KT H kvs xs∧h.DictOfH (tupleKind (za5 P w)) a xs:=by
 obtain ⟨z,y,xs,r,o,es,ep,h1,h2,h3,h4,h5⟩:=(show ObjOk P w H h a (.dT kvs) from rd_of ok e)
 refine ⟨z,y,xs,r,o,es,ep,h1,h2,h3,h4,fun x hx => ?_,h5⟩
 have all:∀ {l:List (List Key×V)} {m:List (List Key×Addr×Value)},KT H l m→∀ x∈m,(tupleKind (za5 P w)).is h x.1 x.2.1:=by
  intro l m q
  induction q with
  | nil=>intro x hx;exact nomatch hx
  | @cons p q ps qs hq t ih =>
   intro x hx
   rcases yaN.mp hx with e | hx
   ·subst e
    exact zhC ok (by rw [← hq.1];exact hq.2.1)
   ·exact ih x hx
 exact all r x hx
theorem dt_of {kvs:List (List Key×V)} (ok:HOk P w H h) (e:H a=some (.dT kvs)):kvs.length≤yaW∧(a == ydQ)=false ∧
  ∃ xs,KT H kvs xs∧h.DictOfH (tupleKind (za5 P w)) a xs:=dt_rd ok (.inl e)
end
def DGet (H:Hp) (a:Addr) (y:V) (r:Option V):Prop :=
 (∃ kvs k,Rd H a (.dK kvs)∧y=kV k∧r=valV kvs k)∨∃ kvs k b,Rd H a (.dT kvs)∧y = .ref b∧H b=some (.tup (k.map kV))∧r=valV kvs k
def DPut (H:Hp) (a:Addr) (y v:V) (H':Hp):Prop :=
 (∃ kvs k,H a=some (.dK kvs)∧y=kV k∧kvs.length < yaW∧H'=upd H a (.dK (putK kvs k v))) ∨
 ∃ kvs k b,H a=some (.dT kvs)∧y = .ref b∧H b=some (.tup (k.map kV))∧kvs.length < yaW∧H'=upd H a (.dT (putK kvs k v))
theorem DGet.k {H:Hp} {a:Addr} {kvs:List (Key×V)} {k:Key} (e:H a=some (.dK kvs)):DGet H a (kV k) (valV kvs k) := .inl ⟨kvs,k,.inl e,rfl,rfl⟩
section
variable {X:Cx} {pins:List (Addr×Obj)} {σ:St} {H:Hp} {s:Shared} {a:Addr} {y v:V} {u r:Value} {o:Option V} {A:Around} {E:Value→Shared→Prop}
theorem Inv.big (I:Inv X pins σ H s):ydQ < s.heap.objs.size:=by
 have h:yar < s.heap.objs.size:=(I.mod.glob.keeps I.bk).lt
 exact Nat.lt_trans (by decide) h
theorem d_getItem {Q:Value→Shared→Prop} (hu:A.units+1 < cLine) (I:Inv X pins σ H s) (g:DGet H a y (some v)) (ry:RelV y u) (h:∀ w' s',Inv X pins σ H s'→RelV v w'→Q w' s') :
  wpAny (model X.prog X.w) A (getItem (.ref a) u) Q E s:=by
 rcases g with ⟨kvs,k,e,ey,l⟩ | ⟨kvs,k,b,e,ey,eb,l⟩
 ·subst ey
  obtain ⟨z,hd,vs,rel,dd⟩:=dk_rd I.hok e
  obtain ⟨w',hw,rw'⟩:=RelO.some_of (v:=v) (o:=valueAt vs k) (by rw [l];exact rel.val k)
  exact wpAny_getItem_of (kV_is ry) dd.mapOf hw (h w' _ (I.tok _) rw')
 ·subst ey
  cases (show u=yaD b from ry)
  obtain ⟨z,hd,xs,rel,dd⟩:=dt_rd I.hok e
  obtain ⟨w',hw,rw'⟩:=RelO.some_of (v:=v) (o:=(atKey xs k).map (·.2)) (by rw [l];exact rel.val k)
  obtain ⟨p,hp,hp2⟩:=Option.map_eq_some_iff.mp hw
  refine wpAny_getItem_heap (yff hu) (zhC I.hok eb) dd hp ?_
  rw [hp2]
  exact h w' _ (I.tok _) rw'
theorem d_notIn {Q:Value→Shared→Prop} (hu:A.units+1 < cLine) (I:Inv X pins σ H s) (g:DGet H a y o) (ry:RelV y u) (h:∀ s',Inv X pins σ H s'→Q (.bool (!o.isSome)) s') :
  wpAny (model X.prog X.w) A (ybo .NotIn u (.ref a)) Q E s:=by
 rcases g with ⟨kvs,k,e,ey,l⟩ | ⟨kvs,k,b,e,ey,eb,l⟩
 ·subst ey
  obtain ⟨z,hd,vs,rel,dd⟩:=dk_rd I.hok e
  refine wpAny_notIn_of (kV_is ry) hd dd.mapOf ?_
  rw [← (rel.val k).isSome_eq,← l]
  exact h _ (I.tok _)
 ·subst ey
  cases (show u=yaD b from ry)
  obtain ⟨z,hd,xs,rel,dd⟩:=dt_rd I.hok e
  refine wpAny_notIn_heap (yff hu) (zhC I.hok eb) hd dd ?_
  have q:=(rel.val k).isSome_eq
  rw [Option.isSome_map] at q
  rw [← q,← l]
  exact h _ (I.tok _)
theorem d_write {h':Heap} {t':Nat} {ob:HO} (I:Inv X pins σ H s) (mu:Mut (H a)) (hs:Heap.SameBut a s.heap h') (he:∃ q,h'.get? a=some q) (new:ObjOk X.prog X.w (upd H a ob) h' a ob) :
  Inv X pins σ (upd H a ob) { s with heap:=h',toks:=t' } :=
 I.write (x:=a) (e:=a) mu (.inl rfl) (fun b q hb z=>(hs.2 b hb).trans z) he new
theorem dk_new {P:Program} {w:World} {H':Hp} {h':Heap} {kvs:List (Key×V)} {vs:List (Key×Value)} (z:kvs.length≤yaW) (hd:(a == ydQ)=false) (rel:KV kvs vs) (dd:h'.DictOf (za5 P w) a vs) :
  ObjOk P w H' h' a (.dK kvs):=⟨z,hd,vs,rel,dd⟩
theorem d_setItem {H':Hp} {Q:Unit→Shared→Prop} (hu:A.units+1 < cLine) (I:Inv X pins σ H s) (g:DPut H a y v H') (ry:RelV y u) (rv:RelV v r) (h:∀ s',Inv X pins σ H' s'→Q () s') :
  wpAny (model X.prog X.w) A (setItem (.ref a) u r) Q E s:=by
 rcases g with ⟨kvs,k,e,ey,l,eH⟩ | ⟨kvs,k,b,e,ey,eb,l,eH⟩
 ·subst ey eH
  obtain ⟨z,hd,vs,rel,dd⟩:=dk_of I.hok e
  have hz:vs.length≤yaW:=by rw [← rel.length];exact z
  have hl:(putK kvs k v).length≤yaW:=by have:=zeX kvs k v;omega
  refine wpAny_setItem_pairs (hsz:=hz) (kV_is ry) dd fun h' dd' hs=>h _ ?_
  have he:∃ q,h'.get? a=some q:=let ⟨q,_,_,hq,_⟩:=dd';⟨q,hq⟩
  exact d_write I (by rw [e];exact ycp) hs he (dk_new hl hd (rel.put k rv) dd')
 ·subst ey eH
  cases (show u=yaD b from ry)
  obtain ⟨z,hd,xs,rel,dd⟩:=dt_of I.hok e
  have hz:xs.length≤yaW:=by rw [← yaz rel];exact z
  have hl:(putK kvs k v).length≤yaW:=by have:=zeX kvs k v;omega
  refine wpAny_setItem_heap (hsz:=hz) (yff hu) (zhC I.hok eb) dd fun h' dd' hs=>h _ ?_
  obtain ⟨q,es,ep,hq,h2,h3,h4,_,h5⟩:=dd'
  refine d_write I (by rw [e];exact ycp) hs ⟨q,hq⟩ ⟨hl,hd,_,(rel.put k eb rv).keeps fun c ys ec => ?_,q,es,ep,hq,h2,h3,h4,h5⟩
  rw [zar (ne_of ec e (fun z=>nomatch z))]
  exact ec
end
section
variable {X:Cx} {pins:List (Addr×Obj)} {σ:St} {H:Hp} {s:Shared} {a:Addr} {kvs:List (Key×V)} {k:Key} {u:Value} {A:Around} {E:Value→Shared→Prop}
end
def NoSl (i:Expr):Prop:=∀ ov iv,subscripted i false ov iv=operate [ov,iv] (getItem ov iv)
theorem subD_of {prog:Program} {w:World} {A:Around} {E:Value→Shared→Prop} {s:Shared} {env:Env} {value slice:Expr} {pos:Pos} {T id:String} {Q:Value→Shared→Prop}
  (hl:typeLookup (.type T) "__getitem__" = pure (some (.builtin id))) (hs:NoSl slice)
  (h:wpAny (model prog w) A (eval value env) (fun o s₁=>wpAny (model prog w) A (eval slice env) (fun i s₂=>s₂.TypeIs o T∧wpAny (model prog w) A (getItem o i) Q E s₂) E s₁) E s) :
  wpAny (model prog w) A (eval (.Subscript value slice pos) env) Q E s:=by
 refine Subscript_ (ycb h (fun o s₁ h₁=>ycb h₁ (fun i s₂ h₂ => ?_) fun _ _ x=>x) fun _ _ x=>x)
 obtain ⟨hT,h₂⟩:=h₂
 unfold subscriptTail
 refine yac ?_
 rw [getitemInPython_of_ne hT.not_modules]
 refine yac (wpAny_specialOf hT hl ?_)
 have fin:wpAny (model prog w) A (subscripted slice false o i) (fun r s₃=>wpAny (model prog w) A (letTemporaryGo value o r >>= fun _=>pure r) Q E s₃) E s₂:=by
  rw [hs o i]
  exact wpAny_operating (ycb h₂ (fun r s₃ h₃=>yac (wpAny_letTemporaryGo (yaf h₃))) fun _ _ x=>x)
 first
  | exact yaf (yac fin)
  | exact yac (yaf (yac fin))
  | exact yac fin
theorem zh6 {X:Cx} {pins:List (Addr×Obj)} {σ:St} {H:Hp} {s:Shared} {a:Addr} {y:V} {o:Option V} (I:Inv X pins σ H s) (g:DGet H a y o):s.TypeIs (.ref a) "dict":=by
 rcases g with ⟨kvs,k,e,_,_⟩ | ⟨kvs,k,b,e,_,_,_⟩
 ·obtain ⟨_,_,vs,_,dd⟩:=dk_rd I.hok e
  exact dd.typeIs
 ·obtain ⟨_,_,xs,_,dd⟩:=dt_rd I.hok e
  exact dd.typeIs
def tDGet (td ty:TE):TE:=fun σ H Q=>td σ H fun x H1=>ty σ H1 fun y H2=>∃ a v,x = .ref a∧DGet H2 a y (some v)∧Q v H2
def tDNotIn (ty td:TE):TE:=fun σ H Q=>ty σ H fun y H1=>td σ H1 fun x H2=>∃ a o,x = .ref a∧DGet H2 a y o∧Q (.bl (!o.isSome)) H2
def sDPut (td ty tv:TE):TS:=fun D σ H=>tv σ H fun v H1=>td σ H1 fun x H2=>ty σ H2 fun y H3=>∃ a H4,x = .ref a∧DPut H3 a y v H4∧D.nx σ H4
section
variable {X:Cx} {o i e value:Expr} {pos pos' tpos:Pos} {td ty tv:TE}
theorem pe_dget (hu:X.A.units+1 < cLine) (ho:PE X o td) (hi:PE X i ty) (hs:NoSl i):PE X (.Subscript o i pos) (tDGet td ty):=by
 intro pins s σ H Q I h
 refine subD_of PySem.F.slot_dict_getitem.lookup hs (thn (ho pins s σ H _ I h) fun u s1 ⟨x,H1,I1,rx,q1⟩=>thn (hi pins s1 σ H1 _ I1 q1) fun iv s2 ho_ => ?_)
 obtain ⟨y,H2,I2,ry,a,v,ex,g,q2⟩:=ho_
 subst ex
 obtain rfl:u=yaD a:=rx
 exact ⟨zh6 I2 g,d_getItem hu I2 g ry fun w' s3 I3 rw'=>⟨v,H2,I3,rw',q2⟩⟩
theorem pc_dnotin (hu:X.A.units+1 < cLine) (hi:PE X i ty) (ho:PE X o td):PC X .NotIn i o (tDNotIn ty td):=by
 intro pins s σ H Q I h
 refine thn (hi pins s σ H _ I h) fun iv s1 ⟨y,H1,I1,ry,q1⟩=>thn (ho pins s1 σ H1 _ I1 q1) fun u s2 ho_ => ?_
 obtain ⟨x,H2,I2,rx,a,ov,ex,g,q2⟩:=ho_
 subst ex
 obtain rfl:u=yaD a:=rx
 exact d_notIn hu I2 g ry fun s3 I3=>⟨.bl (!ov.isSome),H2,I3,rfl,q2⟩
theorem ps_dput (hu:X.A.units+1 < cLine) (ho:PE X o td) (hi:PE X i ty) (hv:PE X value tv) (hs:swapsWith value (some (.Subscript o i pos')) pos.line X.env=pure false) :
  PS X (.Assign [.Subscript o i pos'] value pos) (sDPut td ty tv):=by
 intro pins s σ H D I h
 refine wpAny_Assign_Subscript (thn (hv pins s σ H _ I h) fun r s1 ⟨v,H1,I1,rv,q1⟩=>thn (ho pins s1 σ H1 _ I1 q1) fun u s2 ⟨x,H2,I2,rx,q2⟩=>thn (hi pins s2 σ H2 _ I2 q2) fun iv s3 ho_ => ?_) hs
 obtain ⟨y,H3,I3,ry,a,H4,ex,g,q3⟩:=ho_
 subst ex
 obtain rfl:u=yaD a:=rx
 exact d_setItem hu I3 g ry rv fun s4 I4=>⟨σ,H4,I4,q3⟩
end
theorem dk_empty {P:Program} {w:World} {H:Hp} (h:Heap) (hb:ydQ < h.objs.size):ObjOk P w H (h.push { cls := .type "dict",data := .dict #[] }) h.objs.size (.dK []) :=
 ⟨ya2 _,beq_eq_false_iff_ne.mpr (yco (yaF hb)),[],.nil,Heap.DictOf.new h⟩
def tDNewK:TE:=fun _ H Q=>∀ p,H p=none→Q (.ref p) (upd H p (.dK []))
section
variable {X:Cx} {pos:Pos}
theorem ziA:PE X (.Dict [] [] pos) tDNewK:=fun pins s σ H Q I h =>
 wpAny_Dict_empty ⟨.ref s.heap.objs.size,_,I.laid (a:=s.heap.objs.size) (o := .dK []) (t':=s.toks) (fun _ _ q=>yad _ q) (yag _) (dk_empty s.heap I.big),rfl,h _ (I.hok.fresh (yag _))⟩
end
section
variable {X:Cx} {pins:List (Addr×Obj)} {σ:St} {H:Hp} {s:Shared} {a:Addr} {y d:V} {u r:Value} {o:Option V} {A:Around} {E:Value→Shared→Prop}
end
section
variable {X:Cx} {o e f:Expr} {apos cpos:Pos} {td ty tx:TE}
end
section
variable {X:Cx} {pins:List (Addr×Obj)} {σ:St} {H:Hp} {s:Shared} {a:Addr} {kvs:List (Key×V)} {A:Around} {E:Value→Shared→Prop}
end
section
variable {X:Cx} {pins:List (Addr×Obj)} {σ:St} {H:Hp} {s:Shared} {a:Addr} {y:V} {u:Value} {A:Around} {E:Value→Shared→Prop}
end
end L2
namespace Att
open PySem PySem.W PySem.Calls PyProof.Rows
theorem zeG {P:Params} {h:Heap}:∀ (ns:List Int) (vs:List Value),WellAll P h vs (ns.map WData.int)→IntsAre vs ns:=by
 intro ns
 induction ns with
 | nil =>
  intro vs w
  rw [yeu] at w
  cases w
  exact .nil
 | cons n ns ih =>
  intro vs w
  rw [yan] at w
  cases w with
  | cons a b =>
   cases a
   exact .cons _ _ (ih _ b)
theorem script_of {l:OpenLaw} {n:Nat} (hn:l.most=some n) {P:Params} {h:Heap} {args:List WData} {vals:List Value}
  (hpre:l.row.toRowW.claim.pre args=true) (hwl:WellAll P h vals args) :
  ∃ a vs ns,vals = [yaD a]∧args = [WData.list (ns.map WData.int)]∧h.get? a=some { cls := .type "list",data := .seq vs.toArray }∧IntsAre vs ns∧ns.length≤n:=by
 have hsh:WShape.hasAll [] args [.list .int]=true:=(pre_splitW hpre).1
 have hc:l.pre.holds [] { args:=args }=true:=(pre_splitW hpre).2
 obtain ⟨d,r,rfl,h1,h2⟩:=hasAllW_cons hsh
 obtain rfl:=hasAllW_nil h2
 obtain ⟨xs,rfl,h3⟩:=hasW_list h1
 obtain ⟨ns,rfl⟩:=items_int h3
 have hlen:ns.length≤n:=by
  unfold OpenLaw.pre at hc
  have h4:(WTm.not (.lt (.lit (.int (n:Int))) (.len (.arg 0)))).holds [] { args := [.list (ns.map .int)] }=true:=by
   have h4:=(holds_andW hc).1
   rw [hn] at h4
   exact h4
  have h5:=condW_of h4 (w_not (w_lt w_lit (w_len_list (w_arg rfl))))
  rw [yaa] at h5
  refine ydL fun q => ?_
  have q':(n:Int) < ((ns.length:Nat):Int):=by omega
  first
   | (rw [decide_eq_true q'] at h5;exact absurd h5 (by decide))
   | (simp at h5;omega)
 cases hwl with
 | cons w1 w2 =>
  cases w2
  cases w1 with
  | list ho hall=>exact ⟨_,_,ns,rfl,rfl,ho,zeG ns _ hall,hlen⟩
theorem post_true (l:OpenLaw) (args:List WData):l.row.toRowW.claim.post args (.bool true) args=true :=
 postW_of (r:=l.row.toRowW) (X:=(true == true))
  (show WShape.has [] (.bool true) .bool=true by first | rfl | decide | simp [WShape.has,WShape.arms,WShape.armsAll])
  (show (WTm.eq .res (.lit (.bool true))).value [] { args:=args,res:=some (.bool true),after:=args }=some (.bool (true == true)) from w_eq_bool (w_res rfl) w_lit) rfl
theorem attach_call {l:OpenLaw} {n:Nat} {q:Program} {loose:List Str} {XP:(Str→Option Value)→Heap→Prop} {YP:World→Heap→Prop} {d:DefRec}
  (hn:l.most=some n) (hdf:d.params.defaults = [])
  (call:∀ (w:World) (s₀ s₁:Shared) (mg mb:Str→Option Value) (fa:Addr) (o:Obj) (pm cd doc:Value) (a:Addr) (vs:List Value) (ns:List Int),
   Ground q loose [] XP w s₀ mg mb s₁.heap→YP w s₁.heap →
   s₁.heap.get? fa=some o→o.data = .func (docDef d.name d.params d.body d.scope pm cd doc)→s₁.heap.CodeRec cd d.name→mg d.name=some (.ref fa) →
   s₁.heap.get? a=some { cls := .type "list",data := .seq vs.toArray }→IntsAre vs ns→ns.length≤n→s₁.gens = #[] →
   ydB (model l.prog w) callerA (.call (.ref fa) ⟨[.ref a],[]⟩) (fun r s'=>r = .ok (.ret (.bool true))∧OldK s₁.heap s'.heap∧s'.os=s₁.os∧AllBare s'.gens) s₁) :
  WalkO q loose XP YP l.row.toRowW d [] (fun f vs=>PySem.call f vs):=by
 intro w s₀ s₁ mg mb G Y fa o pm cd doc dV kV ho hd hcd hD hmg hg args vals as hpre hlay hrd hwl hlo
 obtain rfl:dV = .none:=Dflts.none hD hdf
 obtain rfl:kV = .none:=Dflts.noKw hD
 obtain ⟨a,vs,ns,rfl,rfl,hobj,hints,hlen⟩:=script_of hn hpre hwl
 refine enter_call (ycE (call w s₀ s₁ mg mb fa o pm cd doc a vs ns G Y ho (fd_plain hd) hcd hmg hobj hints hlen hg) fun r s' hq => ?_)
 obtain ⟨rfl,h2,h3,h4⟩:=hq
 exact ⟨.inl ⟨.bool true,.bool true,[],rfl,fun _=>rfl,.bool true,post_true l _,fun _=>⟨List.Pairwise.nil,fun _ hm=>(nomatch hm)⟩⟩,h2,h3,h4⟩
section
variable {prog:Program} {w:World} {A:Around} {E:Value→Shared→Prop} {s:Shared} {K:Frag}
end
end Att
namespace L2
open PySem PySem.Spec PyProof.Rows
theorem zgG:∀ {vs:List Value} {ns:List Int},IntsAre vs ns→Vals (ns.map V.int) vs
 | _,_,.nil => .nil
 | _,_,.cons n t h => .cons ⟨t,rfl⟩ (zgG h)
def Only (H:Hp):Prop:=∀ b,H b=none∨∃ o xs,H b=some (.frz o (.lst xs))
theorem law_call {P:Program} {w:World} {K:PySem.W.Frag} {mg mb:Str→Option Value} {CX:CXT} {k:Nat} {fa a:Addr} {fd:FuncData} {x:Str} {sp:Sp} {s₁:Shared} {vs:List Value} {ns:List Int}
  (KX:K.In s₁.heap) (hns:s₁.heap.Ns yar mg) (hb:s₁.heap.Ns builtinsNs mb) (hbb:∀ x:Str,x ≠ "__name__"→mb x=ybw x) (hlim:s₁.heap.NoLimit) (hg:s₁.gens = #[])
  (ha:s₁.heap.get? a=some { cls := .type "list",data := .seq vs.toArray }) (hi:IntsAre vs ns) (hl:ns.length≤yaW) (hr:Room k callerA)
  (F:∀ base:Heap,K.In base→base.Ns yar mg→FnOk P w K mg base CX k fa fd [x] sp) (hbind:∀ (s:Shared) (u:Value),BindsTo s fd ⟨[u],[]⟩ [(x,u)])
  (hsp:∀ H:Hp,Only H→SqL K H a (ns.map V.int)→sp [.ref a] H (fun v _=>v = .bl true) fun _ _ _=>False)
  (hCX:∀ H e s',CX [] H s₁ (fun _ _ _=>False) e s'→False) :
  ydB (model P w) callerA (.call (.ref fa) ⟨[.ref a],[]⟩) (fun r s'=>r = .ok (.ret (.bool true))∧OldK s₁.heap s'.heap∧s'.os=s₁.os∧AllBare s'.gens) s₁:=by
 have rv:=zgG hi
 have lenV:=hi.length
 have core:∀ H:Hp,Only H→SqL K H a (ns.map V.int)→HOk P w H s₁.heap→(∀ b,H b≠none→b=a)→(H a≠none→K.lookup a=none) →
   ydB (model P w) callerA (.call (.ref fa) ⟨[.ref a],[]⟩) (fun r s'=>r = .ok (.ret (.bool true))∧OldK s₁.heap s'.heap∧s'.os=s₁.os∧AllBare s'.gens) s₁:=by
  intro H hO hS hok hA hK
  have base_of:∀ {b:Addr} {o:Obj},s₁.heap.get? b=some o→H b=none→(hidT s₁.heap H).get? b=some o:=fun e n=>hidT_get e n
  have noA:∀ {b:Addr} {o:Obj} {es:Array DictEntry} {ep:Nat},s₁.heap.get? b=some o→o.data = .dict es ep→H b=none:=fun {b o es ep} e d=>by
   cases q:H b with
   | none=>rfl
   | some u =>
    have e':b=a:=hA b (by rw [q];simp)
    subst e'
    rw [ha] at e;cases e
    have d':Data.seq vs.toArray _=Data.dict es ep:=d
    cases d'
  have nsK:∀ {b:Addr} {m:Str→Option Value},s₁.heap.Ns b m→(hidT s₁.heap H).Ns b m:=fun {b m} ⟨o,es,ep,e,d,r⟩=>⟨o,es,ep,base_of e (noA e d),d,r⟩
  have hKb:K.In (hidT s₁.heap H):=fun b o e=>base_of (KX b o e) (by
   cases q:H b with
   | none=>rfl
   | some u =>
    have e':b=a:=hA b (by rw [q];simp)
    subst e'
    rw [hK (by rw [q];simp)] at e;cases e)
  have hM:Mod K mg (hidT s₁.heap H):=⟨hKb,nsK hns,⟨mb,nsK hb,hbb⟩,let ⟨mc,h1,h2⟩:=hlim;⟨mc,nsK h1,h2⟩⟩
  have e0:Env0 P w K mg (hidT s₁.heap H) callerA [] s₁ H:=⟨rfl,hM,fun b o e=>of_hidT e,Nat.le_of_eq (hidT_size _ _),trivial,fun b hb=>absurd (show b∈([]:List Addr) from hb) (by simp),hok,.of_eq hg⟩
  refine ycE ((F _ hKb (nsK hns)).run callerA [] s₁ H ⟨[.ref a],[]⟩ [.ref a] [.ref a] _ _ hr e0 (hbind s₁ (.ref a)) (.cons rfl .nil) (hsp H hO hS)) fun r s' h => ?_
  cases r with
  | error e=>exact (hCX H e s' h).elim
  | ok fl =>
   cases fl with
   | next=>exact ycO h
   | brk=>exact ycO h
   | cont=>exact ycO h
   | ret u =>
    obtain ⟨v,H',os,bare,un,hok',r',q⟩:=h
    have q':v = .bl true:=q
    subst q'
    obtain rfl:u=yds true:=r'
    refine ⟨rfl,OldK.of_keep fun b o e => ?_,os,bare⟩
    cases q:H b with
    | none=>exact un.keep b o e q (by intro z;exact absurd (show b∈([]:List Addr) from z) (by simp)) (by simp)
    | some u =>
     rcases hO b with z | ⟨ob,xs,z⟩
     ·rw [q] at z;cases z
     ·have z2:=un.frzs b ob _ z
      obtain ⟨e1,_⟩:=hok b _ z
      obtain ⟨e2,_⟩:=hok' b _ z2
      rw [e] at e1;cases e1
      exact e2
 cases hk:K.lookup a with
 | some o =>
  have e:=KX a o hk
  rw [ha] at e
  cases e
  refine core (fun _=>none) (fun _ => .inl rfl) (.inr ⟨_,vs.toArray,_,hk,rfl,rfl,rfl,by rw [yaH,lenV];exact hl,by simpa using rv⟩) (fun b u z=>by have z':(none:Option HO)=some u:=z;cases z') (fun b z=>absurd rfl z) fun z=>absurd rfl z
 | none =>
  refine core (fun b=>if b=a then some (.frz { cls := .type "list",data := .seq vs.toArray } (.lst (ns.map V.int))) else none) (fun b => ?_) (.inl (.inr ⟨{ cls := .type "list",data := .seq vs.toArray },if_pos rfl⟩)) (fun b u z => ?_) (fun b z => ?_) fun _=>hk
  ·by_cases hb:b=a
   ·exact .inr ⟨_,_,if_pos hb⟩
   ·exact .inl (if_neg hb)
  ·by_cases hb:b=a
   ·have z':=(if_pos hb).symm.trans z
    cases z'
    subst hb
    exact ⟨ha,by rw [yaa];exact hl,vs,_,rv,ha⟩
   ·have z':=(if_neg hb).symm.trans z
    cases z'
  ·by_cases hb:b=a
   ·exact hb
   ·exact absurd (if_neg hb) z
theorem walk_of {l:PySem.W.OpenLaw} {n k:Nat} {q:Program} {loose:List Str} {XP:(Str→Option Value)→Heap→Prop} {YP:World→Heap→Prop} {d:DefRec} {K:Params→PySem.W.Frag} {CX:World→CXT} {sp:World→Sp} {x:Str}
  (hn:l.most=some n) (hn2:n≤yaW) (hdf:d.params.defaults = []) (hr:Room k callerA)
  (hY:∀ (w:World) (h:Heap),YP w h→(K w.params).In h)
  (F:∀ (w:World) (mg:Str→Option Value) (fa:Addr) (h:Heap),(K w.params).In h→h.Ns yar mg→mg d.name=some (.ref fa) →
   ∃ fd:FuncData,(∀ (s:Shared) (u:Value),BindsTo s fd ⟨[u],[]⟩ [(x,u)]) ∧
    ∀ base:Heap,(K w.params).In base→base.Ns yar mg→FnOk l.prog w (K w.params) mg base (CX w) k fa fd [x] (sp w))
  (hsp:∀ (w:World) (H:Hp) (a:Addr) (ns:List Int),ns.length≤n→Only H→SqL (K w.params) H a (ns.map V.int)→sp w [.ref a] H (fun v _=>v = .bl true) fun _ _ _=>False)
  (hCX:∀ (w:World) (H:Hp) (s:Shared) (e:Value) (s':Shared),CX w [] H s (fun _ _ _=>False) e s'→False) :
  PySem.W.WalkO q loose XP YP l.row.toRowW d [] (fun f vs=>PySem.call f vs):=by
 refine Att.attach_call hn hdf fun w s₀ s₁ mg mb fa o pm cd doc a vs ns G Y ho hd hcd hmg hobj hints hlen hg => ?_
 have KX:=hY w _ Y
 obtain ⟨fd,hb,hF⟩:=F w mg fa _ KX G.T.g hmg
 exact law_call KX G.T.g G.T.b G.T.builtins G.T.nolimit hg hobj hints (ya1 hlen hn2) hr hF hb (fun H hO hS=>hsp w H a ns hlen hO hS) fun H e s'=>hCX w H s₁ e s'
def zh9 (s:Stmt) (j:Nat):Stmt:=match s with
 | .ClassDef _ _ _ body _ _ _ _ _ _ _=>body.getD j (.Pass ⟨0,0,0,0⟩)
 | _ => .Pass ⟨0,0,0,0⟩
def zas (s:Stmt):Arguments:=match s with
 | .FunctionDef _ a _ _ _ _ _ _ _ _=>a
 | _=>{ posonlyargs := [],args := [],vararg:=none,kwonlyargs := [],kw_defaults := [],kwarg:=none,defaults := [] }
def zaq (s:Stmt):List Stmt:=match s with
 | .FunctionDef _ _ b _ _ _ _ _ _ _=>b
 | _ => []
def zag (s:Stmt):Scope:=match s with
 | .FunctionDef _ _ _ _ _ _ sc _ _ _=>sc
 | _=>{ kind := .function,names := [],isGenerator:=false,isCoroutine:=false }
abbrev CX0:CXT:=fun _ _ _ _ _ _=>False
abbrev E0:XK:=fun _ _ _=>False
theorem pass0 {X:Cx}:zeN CX0 X E0:=fun _ _ _ _ _ _ _ h=>h.elim
structure Fun (K:PySem.W.Frag) (x qual:Str) (st:Stmt) (f:Addr) (fd:FuncData):Prop where
 ex:∃ (oc:Value) (od:Option Addr) (kV doc pm:Value) (an:Option Addr) (cdv ct:Value) (osl:Array (Option Value)),
  fd=yaI x qual (zas st) (zaq st) (zag st) .none kV doc pm an cdv ct∧K.lookup f=some ⟨oc,od,.func fd,osl⟩∧yaE K cdv qual=true
 kp:yay K (.ref f)=true
section
variable {P:Program} {w:World} {K:PySem.W.Frag} {mg:Str→Option Value} {base:Heap}
theorem Fun.ok {x qual:Str} {st:Stmt} {f:Addr} {fd:FuncData} {N ps:List Str} {k:Nat} {sp:Sp} (F:Fun K x qual st f fd) (S:FnScope N ps (zag st)) (len:∀ vs H Q E,sp vs H Q E→vs.length=ps.length)
  (hbody:∀ (cdv:Value) (A:Around) (outer:List Env) (s:Shared) (H:Hp) (vs:List V) (Q:VK) (E:XK),Room k (A.deeper (envOfC qual (zag st) s.heap.objs.size f cdv))→sp vs H Q E →
   ∃ t,PSs (cxOf CX0 P w K mg base N qual (zag st) f cdv A outer s H E).nox (zaq st) t∧t { nx:=fun _ H'=>Q .non H',rt:=Q } (start N vs) H):FnOk P w K mg base CX0 (k+1) f fd ps sp:=by
 obtain ⟨oc,od,kV,doc,pm,an,cdv,ct,osl,rfl,lk,hcd⟩:=F.ex
 refine fn_of lk hcd S len fun A outer s H vs Q E hr hsp => ?_
 obtain ⟨t,h,q⟩:=hbody cdv A outer s H vs Q E hr hsp
 exact ⟨t,h.nox,q⟩
theorem Fun.binds {x qual:Str} {st:Stmt} {f:Addr} {fd:FuncData} {ps:List Str} (F:Fun K x qual st f fd)
  (h:∀ (kV doc pm:Value) (an:Option Addr) (cdv ct:Value) (us:List Value),us.length=ps.length→bindArgs (yaI x qual (zas st) (zaq st) (zag st) .none kV doc pm an cdv ct) ⟨us,[]⟩=pure (ps.zip us)):Binds K fd ps []:=by
 obtain ⟨oc,od,kV,doc,pm,an,cdv,ct,osl,rfl,lk,hcd⟩:=F.ex
 exact .all (h kV doc pm an cdv ct)
theorem zaG {x qual:Str} {st:Stmt} {f:Addr} {oc:Value} {od an:Option Addr} {osl:Array (Option Value)} {kV doc pm cdv ct:Value} (l:K.lookup f=some ⟨oc,od,.func (yaI x qual (zas st) (zaq st) (zag st) .none kV doc pm an cdv ct),osl⟩)
  (c:yaE K cdv qual=true) (k:yay K (.ref f)=true):Fun K x qual st f (yaI x qual (zas st) (zaq st) (zag st) .none kV doc pm an cdv ct):=⟨⟨oc,od,kV,doc,pm,an,cdv,ct,osl,rfl,l,c⟩,k⟩
end
theorem hu_of {A:Around} {k:Nat} (hr:Room k A):A.units+1 < cLine:=ydi (Nat.add_le_add_left (by decide:1≤64) _) hr.units
section
variable {X:Cx}
theorem pv (i:Nat) {x:Str} {pos:Pos} (hN:X.N[i]? = some x:=by rfl) (hv:Vis X.env.scope x:=by first | exact yaR rfl | exact Or.inr (yaR rfl) | exact Or.inr (Or.inr rfl)) (hd:(x == ("__debug__" : Str))=false:=by decide)
  (hcd:(x == ("__classdict__" : Str))=false:=by decide):PE X (.Name x pos) (tVar i):=pe_var hN hv hd hcd
end
theorem iteF {A B:Prop} (h:B):if false=true then A else B:=by
 rw [if_neg yaK]
 exact h
theorem iteT {A B:Prop} (h:A):if true=true then A else B:=by
 rw [if_pos rfl]
 exact h
theorem ite2 {c A B:Prop} [Decidable c] (h1:c→A) (h2:¬ c→B):if c then A else B:=by
 by_cases h:c
 ·rw [if_pos h]
  exact h1 h
 ·rw [if_neg h]
  exact h2 h
def Same (H H':Hp):Prop:=∀ b o,H b=some o→H' b=some o
theorem Same.refl (H:Hp):Same H H:=fun _ _ h=>h
theorem Same.trans {H H1 H2:Hp} (a:Same H H1) (b:Same H1 H2):Same H H2:=fun c o h=>b c o (a c o h)
theorem Same.free {H H':Hp} (e:Same H H') {l:Addr} (h:H' l=Option.none):H l=Option.none:=by
 cases q:H l with
 | none=>rfl
 | some o =>
  rw [e l o q] at h
  cases h
theorem Same.seq {K:PySem.W.Frag} {H H':Hp} {a:Addr} {xs:List V} (e:Same H H') (h:SqL K H a xs):SqL K H' a xs:=by
 rcases h with (h | ⟨o,h⟩) | h
 ·exact .inl (.inl (e _ _ h))
 ·exact .inl (.inr ⟨o,e _ _ h⟩)
 ·exact .inr h
section
variable {κ:Type} [DecidableEq κ]
end
end L2
set_option maxHeartbeats 4000000
namespace L2
open PySem PySem.Spec PyProof.Rows
theorem zeC {env:Env}:∀ (l:List (Str×NameKind)) (cs:List (Str×Addr)),(∀ n,(n,ybe)∈l→∃ c,env.cells.lookup n=some c)→(∀ x c,cs.lookup x=some c→env.cells.lookup x=some c) →
  ∃ cl:List (Str×Addr),(forIn l cs (fun x r=>if (x.2 == ybe)=true then do let a ← cellOf env x.1;pure (yc2 ((x.1,a) :: r)) else pure (yc2 r)):Sem (List (Str×Addr)))=pure cl ∧
   (∀ x c,cl.lookup x=some c→env.cells.lookup x=some c)∧(∀ n,(n,ybe)∈l→∃ c,cl.lookup n=some c)∧∀ n c,cs.lookup n=some c→∃ c,cl.lookup n=some c
 | [],cs,_,h2=>⟨cs,rfl,h2,(fun _ z=>nomatch z),fun n c e=>⟨c,e⟩⟩
 | (n,k) :: l,cs,h1,h2=>by
  have h1':∀ m,(m,ybe)∈l→∃ c,env.cells.lookup m=some c:=fun m hm=>h1 m (yap _ hm)
  by_cases hk:k=ybe
  ·subst hk
   obtain ⟨c,hc⟩:=h1 n (yat ..)
   have h2':∀ x d,((n,c) :: cs).lookup x=some d→env.cells.lookup x=some d:=fun x d e=>by
    rw [ybm] at e
    cases hx:x == n with
    | true =>
     rw [hx] at e
     have ex:x=n:=by simpa using hx
     subst ex
     have:c=d:=yas e
     rw [← this];exact hc
    | false=>rw [hx] at e;exact h2 x d e
   obtain ⟨cl,e1,e2,e3,e4⟩:=zeC l ((n,c) :: cs) h1' h2'
   refine ⟨cl,?_,e2,fun m hm => ?_,fun m d e => ?_⟩
   ·rw [ydZ]
    simp only [beq_self_eq_true,if_true]
    have ec:cellOf env n=pure c:=by unfold cellOf;rw [hc]
    rw [ec]
    simp only [pure_bind]
    exact e1
   ·rcases yaN.mp hm with z | z
    ·have:m=n:=congrArg Prod.fst z
     subst this
     exact e4 m c (by rw [ybm];simp)
    ·exact e3 m z
   ·by_cases hx:m=n
    ·subst hx
     exact e4 m c (by rw [ybm];simp)
    ·exact e4 m d (by
      rw [ybm]
      have:(m == n)=false:=by simpa using hx
      rw [this];exact e)
  ·obtain ⟨cl,e1,e2,e3,e4⟩:=zeC l cs h1' h2
   refine ⟨cl,?_,e2,fun m hm => ?_,e4⟩
   ·rw [ydZ]
    have hb:(k == ybe)=false:=by simpa using hk
    simp only [hb,ya0,if_false,pure_bind]
    exact e1
   ·rcases yaN.mp hm with z | z
    ·exact absurd (congrArg Prod.snd z).symm hk
    ·exact e3 m z
theorem clos_of {env:Env} {scope:Scope} (h:∀ n,(n,ybe)∈scope.names→∃ c,env.cells.lookup n=some c) :
  ∃ cl:List (Str×Addr),closureFor scope env=pure cl∧(∀ x c,cl.lookup x=some c→env.cells.lookup x=some c)∧∀ n,(n,ybe)∈scope.names→∃ c,cl.lookup n=some c:=by
 obtain ⟨cl,e1,e2,e3,_⟩:=zeC (env:=env) scope.names [] h ((fun x c e=>nomatch e))
 refine ⟨cl,?_,e2,e3⟩
 unfold closureFor
 refine Eq.trans (bind_pure _) (Eq.trans ?_ e1)
 congr 1
theorem comp_loop {prog:Program} {w:World} {A:Around} {R:Result→Shared→Prop} {s:Shared} {elt target iter:Expr} {ifs:List Expr} {scope:Scope} {pos:Pos} {it acc:Value} {env:Env} (I:Nat→Shared→Prop)
  (turn:∀ n s,I n s→wpAny (model prog w) A (yfb it) (fun r s1=>match r with
   | none=>R (.ok .next) s1
   | some v=>wpAny (model prog w) A (yeR target it v) (fun _ s2=>wpAny (model prog w) A (assign target env v) (fun _ s3 =>
     wpAny (model prog w) A (forIn ifs true fun c r=>if r=true then do let ok ← isTrue c env (eval c env);pure (yc2 ok) else pure (yc2 r)) (fun ok s4 =>
      if ok=true then wpAny (model prog w) A (eval elt env) (fun x s5 =>
       wpAny (model prog w) A (call (.builtin "list.append") [acc,x]) (fun _ s6=>∃ m,m < n∧I m s6) (fun _ _=>False) s5) (fun _ _=>False) s4
      else ∃ m,m < n∧I m s4) (fun _ _=>False) s3) (fun _ _=>False) s2) (fun _ _=>False) s1) (fun _ _=>False) s)
  (n:Nat) (h:I n s) :
  ydB (model prog w) A (.compLoop (.ListComp elt [⟨target,iter,ifs,0⟩] scope pos) 0 it acc env) R s:=by
 refine codeAny_loop rfl I (fun n s hI => ?_) n h
 show wpAny _ A ((compTurn (.ListComp elt [⟨target,iter,ifs,0⟩] scope pos) 0 it acc env).onRaise (fun x=>do noteFrame x env;theTreesLotGoes x)) _ _ s
 refine wpAny_noted ?_
 rw [compTurn_list]
 refine yac (wpAny_standAt (yac (ycb (turn n s hI) (fun r s1 h1 => ?_) fun _ _ h'=>h'.elim)))
 cases r with
 | none=>exact yaf h1
 | some v =>
  refine yac (ycb h1 (fun _ s2 h2 => ?_) fun _ _ h'=>h'.elim)
  refine yac (ycb h2 (fun _ s3 h3=>yac (ycb h3 (fun ok s4 h4 => ?_) fun _ _ h'=>h'.elim)) fun _ _ h'=>h'.elim)
  cases ok with
  | false=>exact yaf ⟨rfl,h4⟩
  | true =>
   exact yac (yac (ycb h4 (fun x s5 h5=>yac (ycb h5 (fun _ s6 h6=>yaf (yaf ⟨rfl,h6⟩)) fun _ _ h'=>h'.elim)) fun _ _ h'=>h'.elim))
abbrev Cx.comp (X:Cx) (scope:Scope) (N:List Str) (cl:List (Str×Addr)) (C:Addr) (s0:Shared) (H0:Hp) (fp:List Addr):Cx :=
 { X with N:=N,s₀:=s0,H₀:=H0,env:=compEnvC scope cl C X.env,outer:=X.stack,ex:=fp,fn:=fun _=>false,pn := [],xe:=fun _ _=>False }
def PTs (X:Cx) (ifs:List Expr) (t:TT):Prop :=
 ∀ (pins:List (Addr×Obj)) (s:Shared) (σ:St) (H:Hp) (Q:Bool→Hp→Prop),Inv X pins σ H s→t σ H Q →
  wpAny (model X.prog X.w) X.A (forIn ifs true fun c r=>if r=true then do let ok ← isTrue c X.env (eval c X.env);pure (yc2 ok) else pure (yc2 r)) (TP X pins σ Q) X.xe s
def tYes:TT:=fun _ H Q=>Q true H
theorem zaM {X:Cx}:PTs X [] tYes:=fun _ _ _ H _ I h=>wpAny_tests_nil ⟨H,I,h⟩
theorem zgh {X:Cx} {c:Expr} {t:TT} (h:PT X c t):PTs X [c] t:=fun pins s σ H Q I hw=>wpAny_tests_one (h pins s σ H Q I hw)
def capSt (own:Nat) (caps:List Nat) (σ:St):St:=List.replicate own none++caps.map fun i=>(σ[i]?).join
def capOk (X:Cx) (scope:Scope) (N:List Str) (own:Nat) (caps:List Nat):Bool :=
 (N.length == own+caps.length)&&(caps.zip (N.drop own)).all fun p=>X.N[p.1]? == some p.2&&scope.names.lookup p.2 == some ybe&&(X.env.kindOf p.2 == some .cell || X.env.kindOf p.2 == some .free)
def scOk (X:Cx) (scope:Scope):Bool :=
 (scope.kind == .function)&&scope.names.all fun p=>(p.2 != .cell)&&(p.2 != .local || scope.names.lookup p.1 == some .local)&&(p.2 != .free || X.env.kindOf p.1 == some .cell || X.env.kindOf p.1 == some .free)
def tComp (own:Nat) (caps:List Nat) (wi:TI) (g:TG) (tt:TT) (te:TE):TE:=fun σ H Q=>wi σ H fun J H1=>∀ D,H1 D=none →
 ∃ W:Nat→Nat→St→Hp→Prop,(∃ m,W 0 m (capSt own caps σ) (upd H1 D (.lst [])))∧∀ i m τ H2,W i m τ H2 →
  (J.stop i H2∧Q (.ref D) H2)∨(J.go i H2∧∃ N:St→Hp→Prop,(∀ τ' H',N τ' H'→∃ m',m' < m∧W (i+1) m' τ' H') ∧
   ∀ x H3,J.yld i H2 x H3→g x τ H3 fun τ4 H4=>tt τ4 H4 fun b H5=>if b=true then te τ4 H5 fun v H6=>∃ xs,H6 D=some (.lst xs)∧xs.length < yaW∧N τ4 (upd H6 D (.lst (xs ++ [v]))) else N τ4 H5)
structure CF (X:Cx) (pins:List (Addr×Obj)) (H:Hp) (C:Addr):Prop where
 free:H C=none
 loc:C≠X.env.locals
 old:X.s₀.heap.objs.size≤C
 cel:∀ x c,X.env.cells.lookup x=some c→c≠C
 pin:∀ p∈X.pn++pins,p.1≠C
section
variable {X:Cx} {elt tg iter:Expr} {ifs:List Expr} {scope:Scope} {pos:Pos} {N:List Str} {own:Nat} {caps:List Nat} {g:TG} {tt:TT} {te:TE}
theorem zfG {pins:List (Addr×Obj)} {σ:St} {H2:Hp} {s2:Shared} {Q:VK} {it:Addr} {fp:List Addr} {tn:Nat→Heap→Prop} {J:It} {cl:List (Str×Addr)} {E:Value→Shared→Prop} {RR:Value→Addr→Result→Shared→Prop}
  (hc:X.calm=true) (hsc:scOk X scope=true) (hcap:capOk X scope N own caps=true)
  (hg:∀ cl C s0 H0 fp,PG (X.comp scope N cl C s0 H0 fp) tg g) (ht:∀ cl C s0 H0 fp,PTs (X.comp scope N cl C s0 H0 fp) ifs tt) (he:∀ cl C s0 H0 fp,PE (X.comp scope N cl C s0 H0 fp) elt te)
  (hcl1:∀ x c,cl.lookup x=some c→X.env.cells.lookup x=some c) (hcl2:∀ n,(n,ybe)∈scope.names→∃ c,cl.lookup n=some c)
  (I2:Inv X pins σ H2 s2) (T:Turn X.prog X.w X.K tg J fp it tn) (st2:tn 0 s2.heap) (f2:∀ b∈fp,FpOk X pins H2 b)
  (q:∀ D,H2 D=none →
   ∃ W:Nat→Nat→St→Hp→Prop,(∃ m,W 0 m (capSt own caps σ) (upd H2 D (.lst [])))∧∀ i m τ H2,W i m τ H2 →
    (J.stop i H2∧Q (.ref D) H2)∨(J.go i H2∧∃ N:St→Hp→Prop,(∀ τ' H',N τ' H'→∃ m',m' < m∧W (i+1) m' τ' H') ∧
     ∀ x H3,J.yld i H2 x H3→g x τ H3 fun τ4 H4=>tt τ4 H4 fun b H5=>if b=true then te τ4 H5 fun v H6=>∃ xs,H6 D=some (.lst xs)∧xs.length < yaW∧N τ4 (upd H6 D (.lst (xs ++ [v]))) else N τ4 H5))
  (hRR:∀ D C H' s' m,Inv X pins σ H' s'→CF X pins H' C→s'.heap.Ns C m→Q (.ref D) H'→RR (.ref D) C (.ok .next) s') :
  wpAny (model X.prog X.w) X.A (newList []) (fun acc s3=>wpAny (model X.prog X.w) X.A (newFunctionEnv scope X.env.globals cl [] X.env.qual none .none (some X.env)) (fun cenv s4 =>
   ydB (model X.prog X.w) X.A (.compStart (.ListComp elt [⟨tg,iter,ifs,0⟩] scope pos) 0 (.ref it) acc { cenv with scope:=relabel scope X.env }) (RR acc cenv.locals) s4) E s3) E s2:=by
 simp only [scOk,yaL,yaP,beq_iff_eq] at hsc
 obtain ⟨hkind,hsc⟩:=hsc
 have hcell:∀ y∈scope.names,y.2 ≠ .cell:=fun y hy=>by have:=(hsc y hy).1.1;simpa using this
 refine ybu (wpAny_newFunctionEnv hcell (by intro y hy;simp at hy) (fun h1 hns1 hsb1 => ?_) hkind)
 dsimp only at hns1 hsb1 ⊢
 generalize hH2:s2.heap.push { cls := .type "list",dict:=none,data := .seq ([]:List Value).toArray }=G at hns1 hsb1 ⊢
 have hC:G.objs.size=s2.heap.objs.size+1:=by rw [← hH2,ybd]
 have hDC:s2.heap.objs.size≠G.objs.size:=by rw [hC];exact yaF (ybh _)
 have below:∀ b,b < s2.heap.objs.size→b≠G.objs.size:=fun b hb=>by rw [hC];exact yaF (ycg hb)
 have old:∀ b o,s2.heap.get? b=some o→h1.get? b=some o:=fun b o e=>hsb1.extBut b o (below b (yak e)) (yad _ (hH2 ▸ yad _ e))
 have hacc:h1.get? s2.heap.objs.size=some { cls := .type "list",dict:=none,data := .seq ([]:List Value).toArray }:=hsb1.extBut _ _ hDC (yad _ (hH2 ▸ yai _ rfl))
 have freshD:H2 s2.heap.objs.size=none:=I2.hok.fresh (yag _)
 have freshC:H2 G.objs.size=none:=I2.hok.fresh (by rw [hC];exact ycA _)
 have newC:∀ H',H' G.objs.size=none→CF X pins H' G.objs.size:=fun H' e=>by
  have big:s2.heap.objs.size≤G.objs.size:=by rw [hC];exact ycA _
  obtain ⟨_,f1,_,f3,f4,f5⟩:=I2.fpOk (H':=H') (b:=G.objs.size) big e
  exact ⟨e,f1,ya1 I2.sz big,f4,f5⟩
 have okX:(X.comp scope N cl G.objs.size s2 H2 fp).Ok:=by
  refine ⟨I2.ok.mod,?_,I2.ok.glob,I2.ok.blt,?_,?_,?_,(fun x c z=>nomatch z),I2.ok.hd,I2.ok.frames,.inl rfl,?_,I2.bs,ya1 I2.ok.bsz I2.sz,?_,?_,I2.stack,I2.stkFree⟩
  ·show (relabel scope X.env).kind = .function
   exact hkind
  ·show s2.heap.objs.size≤G.objs.size
   rw [hC];exact ycA _
  ·intro x y c e1 e2
   exact I2.ok.inj x y c (hcl1 x c e1) (hcl1 y c e2)
  ·intro x hx
   have key:∀ (names:List (Str×NameKind)),(∀ y∈names,y.2 ≠ .cell) →
     ((names.map fun (n,k)=>if (k == ybe&&X.env.scope.kind == .function&&X.env.kindOf n == some .cell)=true then (n,NameKind.cell) else (n,k)).lookup x=some .cell ∨
      (names.map fun (n,k)=>if (k == ybe&&X.env.scope.kind == .function&&X.env.kindOf n == some .cell)=true then (n,NameKind.cell) else (n,k)).lookup x=some .free)→(x,ybe)∈names:=by
    intro names
    induction names with
    | nil=>intro _ h;rcases h with h | h <;> cases h
    | cons p r ih =>
     obtain ⟨n,k⟩:=p
     intro hne h
     rw [yan] at h
     cases hx:x == n with
     | true =>
      have ex:x=n:=by simpa using hx
      subst ex
      by_cases hk:k=ybe
      ·subst hk;exact yat ..
      ·exfalso
       have hb:(k == ybe)=false:=by simpa using hk
       have hkc:k ≠ .cell:=hne (x,k) (yat ..)
       simp only [hb,ycD,ya0,if_false,ybm,beq_self_eq_true] at h
       rcases h with h | h
       ·exact hkc (yas h)
       ·exact hk (yas h)
     | false =>
      refine yap _ (ih (fun y hy=>hne y (yap _ hy)) ?_)
      by_cases hcd:(k == ybe&&X.env.scope.kind == .function&&X.env.kindOf n == some .cell)=true
      ·simp only [hcd,if_true,ybm,hx] at h;exact h
      ·simp only [hcd,ya0,if_false,ybm,hx] at h;exact h
   exact hcl2 x (key scope.names hcell hx)
  ·intro b hb
   obtain ⟨o,e,_⟩:=T.obj 0 _ st2 b hb
   exact ⟨below b (yak e),fun x c ec=>(f2 b hb).2.2.2.2.1 x c (hcl1 x c ec)⟩
  ·intro b o e hb
   rcases (f2 b hb).2.2.2.1 with z | z
   ·exact I2.ok.noex b o e z
   ·exact absurd (yaT (yak e) (ya1 I2.ok.bsz z)) (ycQ _)
  ·intro b hb hs
   rcases yaN.mp (I2.stkSub b hs) with z | z
   ·exact (f2 b hb).2.1 z
   ·exact (f2 b hb).2.2.1 z
 have hokD:HOk X.prog X.w (upd H2 s2.heap.objs.size (.lst [])) h1:=I2.hok.laid old (yag _) ⟨ya2 _,[],0,.nil,hacc⟩
 have I4:∀ t',Inv (X.comp scope N cl G.objs.size s2 H2 fp) [] (capSt own caps σ) (upd H2 s2.heap.objs.size (.lst [])) { s2 with heap:=h1,toks:=t' }:=fun t'=>by
  simp only [capOk,yaL,yaP,beq_iff_eq] at hcap
  obtain ⟨hlen,hcap⟩:=hcap
  refine ⟨okX,rfl,I2.bare,Un.laid old (yag _) freshD,⟨_,hns1,?_⟩,?_,?_,?_,(fun p hp=>nomatch hp),hokD,?_⟩
  ·intro i x v e1 e2 e3
   have hio:own≤i:=by
    refine ydL fun hlt => ?_
    rw [capSt,ydC (by simpa using hlt),List.getElem?_replicate,if_pos hlt] at e2
    cases e2
   rw [capSt,ybJ (by simpa using hio),yet,yae] at e2
   cases ec:caps[i - own]? with
   | none=>rw [ec] at e2;cases e2
   | some k =>
    rw [ec] at e2
    have e2':(σ[k]?).join=some v:=yas e2
    have hmem:(k,x)∈caps.zip (N.drop own):=by
     have e1':(N.drop own)[i - own]? = some x:=by
      rw [yd0]
      have:own+(i - own)=i:=by omega
      rw [this];exact e1
     refine List.mem_iff_getElem?.mpr ⟨i - own,?_⟩
     rw [List.getElem?_zip_eq_some]
     exact ⟨ec,e1'⟩
    have hk:=hcap (k,x) hmem
    simp only [Bool.or_eq_true,beq_iff_eq] at hk
    obtain ⟨⟨hk1,hk2⟩,hk3⟩:=hk
    have hσ:σ[k]? = some (some v):=by
     cases ez:σ[k]? with
     | none=>rw [ez] at e2';cases e2'
     | some o=>rw [ez] at e2';cases o with
      | none=>cases e2'
      | some v'=>have:v'=v:=yas e2';rw [this]
    have hvis:Vis X.env.scope x := .inr hk3
    obtain ⟨m,hn,hl⟩:=I2.loc
    obtain ⟨u,r,l⟩:=hl k x v hk1 hσ hvis
    rcases l with ⟨lk,_⟩ | ⟨lk,c,lc,lz⟩
    ·rcases hk3 with z | z <;> (rw [z] at lk;cases lk)
    ·have hfree:(x,ybe)∈scope.names:=by
      have key:∀ (names:List (Str×NameKind)),names.lookup x=some .free→(x,ybe)∈names:=by
       intro names
       induction names with
       | nil=>intro h;cases h
       | cons p r ih =>
        obtain ⟨n,k⟩:=p
        intro h
        rw [ybm] at h
        cases hx:x == n with
        | true =>
         rw [hx] at h
         have ex:x=n:=by simpa using hx
         have ek:k = .free:=yas h
         subst ex;subst ek
         exact yat ..
        | false=>rw [hx] at h;exact yap _ (ih h)
      exact key _ hk2
     obtain ⟨c',hc'⟩:=hcl2 x hfree
     have ecc:c'=c:=yas ((hcl1 x c' hc').symm.trans lc)
     subst ecc
     refine ⟨u,r,.inr ⟨?_,c',hc',?_⟩⟩
     ·rcases e3 with z | z | z
      ·
       exfalso
       have key:∀ (names:List (Str×NameKind)),names.lookup x=some .free →
         (names.map fun (n,k)=>if (k == ybe&&X.env.scope.kind == .function&&X.env.kindOf n == some .cell)=true then (n,NameKind.cell) else (n,k)).lookup x≠some .local:=by
        intro names
        induction names with
        | nil=>intro h;cases h
        | cons p r ih =>
         obtain ⟨n,k⟩:=p
         intro h
         rw [ybm] at h
         rw [yan]
         cases hx:x == n with
         | true =>
          rw [hx] at h
          have ek:k = .free:=yas h
          subst ek
          by_cases hcd:(ybe == ybe&&X.env.scope.kind == .function&&X.env.kindOf n == some .cell)=true
          ·simp only [hcd,if_true,ybm,hx];intro z;cases z
          ·simp only [hcd,ya0,if_false,ybm,hx];intro z;cases z
         | false =>
          rw [hx] at h
          by_cases hcd:(k == ybe&&X.env.scope.kind == .function&&X.env.kindOf n == some .cell)=true
          ·simp only [hcd,if_true,ybm,hx];exact ih h
          ·simp only [hcd,ya0,if_false,ybm,hx];exact ih h
       exact key _ hk2 z
      ·exact .inl z
      ·exact .inr z
     ·obtain ⟨o,ho,hd⟩:=lz
      exact ⟨o,old _ o ho,hd⟩
  ·intro x c e
   obtain ⟨v,o,ho,hd⟩:=I2.cell x c (hcl1 x c e)
   exact ⟨v,o,old _ o ho,hd⟩
  ·show upd H2 s2.heap.objs.size (.lst []) G.objs.size=none
   rw [zar (yco hDC)];exact freshC
  ·intro x c e
   obtain ⟨v,o,ho,hd⟩:=I2.cell x c (hcl1 x c e)
   show upd H2 s2.heap.objs.size (.lst []) c=none
   rw [zar (yaF (yak ho))]
   exact I2.freeC x c (hcl1 x c e)
  ·show (capSt own caps σ).length=N.length
   rw [capSt,yao,yet,yaa,hlen]
 obtain ⟨W,⟨m0,w0⟩,turn⟩:=q s2.heap.objs.size freshD
 have stat:∀ {H':Hp},(∀ b∈fp,H' b=none)→∀ b∈fp,FpOk (X.comp scope N cl G.objs.size s2 H2 fp) [] H' b:=fun hn b hb=>by
  obtain ⟨o,e,_⟩:=T.obj 0 _ st2 b hb
  exact ⟨hn b hb,below b (yak e),okX.exfs b hb,.inl hb,fun x c ec=>(f2 b hb).2.2.2.2.1 x c (hcl1 x c ec),(fun p hp=>nomatch hp)⟩
 have fr0:∀ b∈fp,upd H2 s2.heap.objs.size (.lst []) b=none:=fun b hb=>by
  obtain ⟨o,e,_⟩:=T.obj 0 _ st2 b hb
  rw [zar (yaF (yak e))]
  exact (f2 b hb).1
 have st1:tn 0 h1:=T.keep 0 _ _ st2 fun b _ o e=>old b o e
 have back:∀ {σ':St} {H':Hp} {s':Shared},Inv (X.comp scope N cl G.objs.size s2 H2 fp) [] σ' H' s'→Inv X pins σ H' s':=fun {σ' H' s'} I' =>
  I2.call' (ch:=fp) I'.os I'.base I'.hok I'.bare fun b hb=>⟨(f2 b hb).2.2.2.1,(f2 b hb).2.1,(f2 b hb).2.2.2.2.1,(f2 b hb).2.2.2.2.2⟩
 have loop:∀ s4:Shared,s4 = { s2 with heap:=h1,toks:=s2.toks+([]:List (Str×Value)).length } →
   ydB (model X.prog X.w) X.A (.compLoop (.ListComp elt [⟨tg,iter,ifs,0⟩] scope pos) 0 (.ref it) (.ref s2.heap.objs.size) (compEnvC scope cl G.objs.size X.env)) (RR (.ref s2.heap.objs.size) G.objs.size) s4:=by
  rintro s4 rfl
  refine comp_loop (fun n s'=>∃ i τ H',Inv (X.comp scope N cl G.objs.size s2 H2 fp) [] τ H' s'∧tn i s'.heap∧(∀ b∈fp,H' b=none)∧W i n τ H') ?_ m0 ⟨0,_,_,I4 _,st1,fr0,w0⟩
  rintro n s3 ⟨i,τ3,H3,I3,st3,fr3,w3⟩
  rcases turn i n τ3 H3 w3 with ⟨stop,qn⟩ | ⟨go,N',hN',step⟩
  ·refine thn (T.done (X.comp scope N cl G.objs.size s2 H2 fp) rfl rfl rfl hc i [] s3 τ3 H3 _ I3 (stat fr3) st3 stop) fun r s4 ⟨hr,I4⟩ => ?_
   subst hr
   obtain ⟨m,hn,_⟩:=I4.loc
   exact hRR _ _ H3 s4 m (back I4) (newC H3 I4.free) hn qn
  ·refine thn (T.item (X.comp scope N cl G.objs.size s2 H2 fp) rfl rfl rfl hc i [] s3 τ3 H3 _ I3 (stat fr3) st3 go) fun r s4 ⟨u,hr,h4⟩ => ?_
   subst hr
   refine thn h4 fun _ s5 ho_ => ?_
   obtain ⟨x,H5,I5,r5,y5,st5,fr5⟩:=ho_
   have I5':=I5.pinned (stat fr5) (T.obj _ _ st5)
   refine thn (hg cl _ s2 H2 fp _ s5 τ3 H5 x u _ I5' r5 (step x H5 y5)) fun _ s6 ho_ => ?_
   obtain ⟨τ6,H6,I6,q6⟩:=ho_
   refine thn (ht cl _ s2 H2 fp _ s6 τ6 H6 _ I6 q6) fun b s7 ho_ => ?_
   obtain ⟨H7,I7,q7⟩:=ho_
   have again:∀ {τ8:St} {H8:Hp} {s8:Shared},Inv (X.comp scope N cl G.objs.size s2 H2 fp) ([]++zgx fp s5.heap) τ8 H8 s8→N' τ8 H8 →
     ∃ m,m < n∧∃ i τ H',Inv (X.comp scope N cl G.objs.size s2 H2 fp) [] τ H' s8∧tn i s8.heap∧(∀ b∈fp,H' b=none)∧W i m τ H':=fun {τ8 H8 s8} I8 n8=>by
    obtain ⟨m',hm,w8⟩:=hN' τ8 H8 n8
    refine ⟨m',hm,i+1,τ8,H8,I8.unpinned,T.keep _ _ _ st5 fun b hb o e=>(I8.pin (b,o) (ybp _ (ybp _ (zc9 hb e)))).1,fun b hb => ?_,w8⟩
    obtain ⟨o,e,d⟩:=T.obj _ _ st5 b hb
    exact (I8.pin (b,o) (ybp _ (ybp _ (zc9 hb e)))).2.1
   cases b with
   | false =>
    rw [if_neg (by decide)]
    rw [if_neg (by decide)] at q7
    exact again I7 q7
   | true =>
    rw [if_pos rfl]
    rw [if_pos rfl] at q7
    refine thn (he cl _ s2 H2 fp _ s7 τ6 H7 _ I7 q7) fun u8 s8 ho_ => ?_
    obtain ⟨v,H8,I8,r8,xs,hD,hz,n8⟩:=ho_
    refine thn (zbA _ s8 τ6 H8 (.ref s2.heap.objs.size) [v] (.ref s2.heap.objs.size) [u8] (fun _ H'=>N' τ6 H') I8 rfl (.cons r8 .nil) ⟨_,xs,v,rfl,rfl,hD,hz,n8⟩) fun _ s9 ho_ => ?_
    obtain ⟨_,H9,I9,_,n9⟩:=ho_
    exact again I9 n9
 exact codeAny_compStart_list (loop _ rfl) (T.self _ 0 _ _ _ st1 (loop _ rfl))
theorem clos_ok {pins:List (Addr×Obj)} {σ:St} {H:Hp} {s:Shared} (I:Inv X pins σ H s) (hsc:scOk X scope=true) :
  ∃ cl:List (Str×Addr),closureFor scope X.env=pure cl∧(∀ x c,cl.lookup x=some c→X.env.cells.lookup x=some c)∧∀ n,(n,ybe)∈scope.names→∃ c,cl.lookup n=some c:=by
 refine clos_of fun n hn=>I.ok.has n ?_
 simp only [scOk,yaL,yaP] at hsc
 have:=(hsc.2 (n,.free) hn).2
 simpa using this
theorem zek (hsc:scOk X scope=true):scope.kind = .function∧∀ x∈scope.names,x.2 = .local→scope.names.lookup x.1=some .local:=by
 simp only [scOk,yaL,yaP] at hsc
 refine ⟨by simpa using hsc.1,fun x hx hl => ?_⟩
 have:=(hsc.2 x hx).1.2
 rw [hl] at this
 simpa using this
theorem zaR {wi:TI} (hc:X.calm=true) (hsc:scOk X scope=true) (hcap:capOk X scope N own caps=true) (hi:PI X tg iter wi)
  (hg:∀ cl C s0 H0 fp,PG (X.comp scope N cl C s0 H0 fp) tg g) (ht:∀ cl C s0 H0 fp,PTs (X.comp scope N cl C s0 H0 fp) ifs tt) (he:∀ cl C s0 H0 fp,PE (X.comp scope N cl C s0 H0 fp) elt te)
  (hs:∀ x,foldedSetIterable iter X.env x=pure x:=by intro _;rfl):PE X (.ListComp elt [⟨tg,iter,ifs,0⟩] scope pos) (tComp own caps wi g tt te):=by
 intro pins s σ H Q I h
 obtain ⟨cl,hcl,hcl1,hcl2⟩:=clos_ok I hsc
 rw [eval_ListComp]
 refine wpAny_comprehension_free (use:=none) rfl hs hcl (zek hsc).1 (zek hsc).2 (thn (hi pins s σ H _ I h) fun v s1 h1=>thn h1 fun itv s2 h2 => ?_)
 obtain ⟨it,fp,tn,J,H2,e,I2,T,st2,f2,q⟩:=h2
 subst e
 refine zfG (Q:=Q) (RR:=fun acc C=>compPost (model X.prog X.w) X.A X.xe none (EP X pins σ Q) acc C) hc hsc hcap hg ht he hcl1 hcl2 I2 T st2 f2 q fun D C H' s' m I' F hn hq=>⟨m,hn,fun h' hs' => ?_⟩
 exact ⟨.ref D,H',I'.turned (t':=s'.toks) (fun b o hb e=>(hs'.2 b hb).trans e) F.free F.loc (.inr F.old) F.cel F.pin,rfl,hq⟩
theorem zdo {wi:TI} {i:Nat} {y:Str} {py spos:Pos} (hN:X.N.Nodup) (hiN:X.N[i]? = some y) (hy:Loc X.env.scope y) (hc:X.calm=true) (hsc:scOk X scope=true) (hcap:capOk X scope N own caps=true) (hi:PI X tg iter wi)
  (hg:∀ cl C s0 H0 fp,PG (X.comp scope N cl C s0 H0 fp) tg g) (ht:∀ cl C s0 H0 fp,PTs (X.comp scope N cl C s0 H0 fp) ifs tt) (he:∀ cl C s0 H0 fp,PE (X.comp scope N cl C s0 H0 fp) elt te)
  (hsw:swapsWith (.ListComp elt [⟨tg,iter,ifs,0⟩] scope pos) (some (.Name y py)) spos.line X.env=pure true:=by rfl)
  (hf:X.fn y=true∨X.env.scope.names.lookup y=some .local:=by first | exact .inl rfl | exact .inr rfl | assumption)
  (hs:∀ x,foldedSetIterable iter X.env x=pure x:=by intro _;rfl):PS X (.Assign [.Name y py] (.ListComp elt [⟨tg,iter,ifs,0⟩] scope pos) spos) (tAsg (tComp own caps wi g tt te) (gName i)):=by
 intro pins s σ H D I h
 obtain ⟨cl,hcl,hcl1,hcl2⟩:=clos_ok I hsc
 rw [exec_Assign_Name_used y py _ spos hsw]
 refine yac (wpAny_standAt (yac ?_))
 show wpAny _ _ (do let _ ← comprehension (.ListComp elt [⟨tg,iter,ifs,0⟩] scope pos) scope X.env (firstIterPos [⟨tg,iter,ifs,0⟩] pos) (newList []) (firstAsync [⟨tg,iter,ifs,0⟩]) (firstIter [⟨tg,iter,ifs,0⟩] X.env) (some (assign (.Name y py) X.env))) _ _ s
 refine yac ?_
 refine wpAny_comprehension_free (use:=some (assign (.Name y py) X.env)) rfl hs hcl (zek hsc).1 (zek hsc).2 (thn (hi pins s σ H _ I h) fun v s1 h1=>thn h1 fun itv s2 h2 => ?_)
 obtain ⟨it,fp,tn,J,H2,e,I2,T,st2,f2,q⟩:=h2
 subst e
 refine zfG (Q:=fun x H1=>D.nx (σ.set i (some x)) H1) (RR:=fun acc C=>compPost (model X.prog X.w) X.A X.xe (some (assign (.Name y py) X.env)) _ acc C) hc hsc hcap hg ht he hcl1 hcl2 I2 T st2 f2 q fun DD C H' s' m I' F hn hq => ?_
 show wpAny _ _ (assign (.Name y py) X.env (.ref DD)) _ _ s'
 refine wpAny_assign_Name (zhw (v := .ref DD) I' hN hiN hy rfl (fun s3 I3 ho_ => ?_) hf)
 obtain ⟨a,sb,ha⟩:=ho_
 have nCa:C≠a:=by
  rcases ha with e | e
  ·rw [e];exact F.loc
  ·exact (F.cel y a e).symm
 refine ⟨m,hn.sameBut sb nCa,fun h' hs'=>yaf (yaf ⟨σ.set i (some (.ref DD)),H',I3.turned (t':=s3.toks) (fun b o hb e=>(hs'.2 b hb).trans e) F.free F.loc (.inr F.old) F.cel F.pin,hq⟩)⟩
end
def Its (x:Str):It:=⟨fun i _=>i < x.cps.size,fun i H v H'=>H'=H∧∃ c,x.cps[i]? = some c∧v = .str ⟨#[c]⟩,fun i _=>x.cps.size≤i⟩
theorem turn_strA {P:Program} {w:World} {K:PySem.W.Frag} {tg:Expr} (it:Addr) (x:Str) (t:Tok):Turn P w K tg (Its x) [it] it (fun i h=>h.IsStrIter it "str_ascii_iterator" x t i) where
 mem:=by simp
 obj:=fun i h st b hb=>by
  have e:b=it:=by simpa using hb
  subst e
  obtain ⟨o,e,c,d⟩:=st
  exact ⟨o,e,fun v z=>by rw [d] at z;cases z⟩
 keep:=fun i h h' st k=>let ⟨o,e,r⟩:=st;⟨o,k it (by simp) o e,r⟩
 item:=by
  intro X hP hw hK hc i pins s σ H E I hf st hg
  subst hP hw hK
  obtain ⟨f0,f1,f2,f3,f4,f5⟩:=hf it (by simp)
  have hlt:i < x.cps.size:=hg
  refine wpAny_pyNext_ascii_item st (c:=x.cps[i]) (by simp [hlt]) fun h' st' sb => ?_
  have I1:Inv X pins σ H { s with heap:=h',toks:=s.toks+1 }:=I.turned (fun b o hb e=>sb.extBut b o hb e) f0 f1 f3 f4 f5
  obtain ⟨o,e,c,d⟩:=id st'
  exact ⟨_,rfl,go_of (s:={ s with heap:=h',toks:=s.toks+1 }) e c d (by decide) ⟨.str ⟨#[x.cps[i]]⟩,H,I1,⟨_,rfl⟩,⟨rfl,_,by simp [hlt],rfl⟩,st',fun b hb=>(hf b hb).1⟩⟩
 done:=by
  intro X hP hw hK hc i pins s σ H E I hf st hg
  subst hP hw hK
  obtain ⟨f0,f1,f2,f3,f4,f5⟩:=hf it (by simp)
  have hle:x.cps.size≤i:=hg
  exact wpAny_pyNext_ascii_end (I.ok.hd hc) st (by simp [hle]) fun h' eb=>⟨rfl,I.turned (t':=s.toks) (fun b o hb e=>eb b o hb e) f0 f1 f3 f4 f5⟩
 self:=fun _ _ _ _ _ st h=>wpAny_pyIter_striter_ascii st h
theorem turn_strW {P:Program} {w:World} {K:PySem.W.Frag} {tg:Expr} (it:Addr) (x:Str) (t:Tok):Turn P w K tg (Its x) [it] it (fun i h=>h.IsStrIter it "str_iterator" x t i) where
 mem:=by simp
 obj:=fun i h st b hb=>by
  have e:b=it:=by simpa using hb
  subst e
  obtain ⟨o,e,c,d⟩:=st
  exact ⟨o,e,fun v z=>by rw [d] at z;cases z⟩
 keep:=fun i h h' st k=>let ⟨o,e,r⟩:=st;⟨o,k it (by simp) o e,r⟩
 item:=by
  intro X hP hw hK hc i pins s σ H E I hf st hg
  subst hP hw hK
  obtain ⟨f0,f1,f2,f3,f4,f5⟩:=hf it (by simp)
  have hlt:i < x.cps.size:=hg
  refine wpAny_pyNext_wide_item st (c:=x.cps[i]) (by simp [hlt]) fun h' st' sb => ?_
  have I1:Inv X pins σ H { s with heap:=h',toks:=s.toks+1 }:=I.turned (fun b o hb e=>sb.extBut b o hb e) f0 f1 f3 f4 f5
  obtain ⟨o,e,c,d⟩:=id st'
  exact ⟨_,rfl,go_of (s:={ s with heap:=h',toks:=s.toks+1 }) e c d (by decide) ⟨.str ⟨#[x.cps[i]]⟩,H,I1,⟨_,rfl⟩,⟨rfl,_,by simp [hlt],rfl⟩,st',fun b hb=>(hf b hb).1⟩⟩
 done:=by
  intro X hP hw hK hc i pins s σ H E I hf st hg
  subst hP hw hK
  obtain ⟨f0,f1,f2,f3,f4,f5⟩:=hf it (by simp)
  have hle:x.cps.size≤i:=hg
  exact wpAny_pyNext_wide_end (I.ok.hd hc) st (by simp [hle]) fun h' eb=>⟨rfl,I.turned (t':=s.toks) (fun b o hb e=>eb b o hb e) f0 f1 f3 f4 f5⟩
 self:=fun _ _ _ _ _ st h=>wpAny_pyIter_striter_wide st h
def iStr (tl:TE):TI:=fun σ H R=>tl σ H fun x H1=>∃ z,x = .str z∧R (Its z) H1
section
variable {X:Cx}
theorem pi_str {tg l:Expr} {tl:TE} (hl:PE X l tl):PI X tg l (iStr tl):=by
 intro pins s σ H R I h
 refine thn (hl pins s σ H _ I h) fun v s1 ho_ => ?_
 obtain ⟨x,H1,I1,r1,q1⟩:=ho_
 obtain ⟨z,rfl,q⟩:=q1
 obtain ⟨t,rfl⟩:=r1
 have fin:∀ b ∈ [s1.heap.objs.size],FpOk X pins H1 b:=fun b hb=>by
  have e:b=s1.heap.objs.size:=by simpa using hb
  subst e
  exact I1.fpOk (yag _) (I1.hok.fresh (yag _))
 cases ha:z.cps.all (· < 128)
 ·refine wpAny_pyIter_wide ha ?_
  exact ⟨s1.heap.objs.size,[s1.heap.objs.size],_,_,H1,rfl,I1.kept (t':=s1.toks) fun b o e=>yad _ e,turn_strW _ z t,⟨_,yai _ rfl,rfl,rfl⟩,fin,q⟩
 ·refine wpAny_pyIter_ascii ha ?_
  exact ⟨s1.heap.objs.size,[s1.heap.objs.size],_,_,H1,rfl,I1.kept (t':=s1.toks) fun b o e=>yad _ e,turn_strA _ z t,⟨_,yai _ rfl,rfl,rfl⟩,fin,q⟩
theorem zaz {own:Nat} {caps:List Nat} {J:It} {g:TG} {tt:TT} {te:TE} {σ:St} {H1:Hp} {Q:Hp→Prop} {D:Addr} (n:Nat) (Pv:Nat→St→Hp→Prop) (h0:Pv 0 (capSt own caps σ) (upd H1 D (.lst [])))
  (go:∀ i τ H,i < n→Pv i τ H→J.go i H) (stop:∀ τ H,Pv n τ H→J.stop n H)
  (hs:∀ i τ H x H3,i < n→Pv i τ H→J.yld i H x H3→g x τ H3 fun τ4 H4=>tt τ4 H4 fun b H5=>if b=true then te τ4 H5 fun v H6=>∃ xs,H6 D=some (.lst xs)∧xs.length < yaW∧Pv (i+1) τ4 (upd H6 D (.lst (xs ++ [v]))) else Pv (i+1) τ4 H5)
  (hd:∀ τ H,Pv n τ H→Q H) :
  ∃ W:Nat→Nat→St→Hp→Prop,(∃ m,W 0 m (capSt own caps σ) (upd H1 D (.lst [])))∧∀ i m τ H2,W i m τ H2 →
   (J.stop i H2∧Q H2)∨(J.go i H2∧∃ N:St→Hp→Prop,(∀ τ' H',N τ' H'→∃ m',m' < m∧W (i+1) m' τ' H') ∧
    ∀ x H3,J.yld i H2 x H3→g x τ H3 fun τ4 H4=>tt τ4 H4 fun b H5=>if b=true then te τ4 H5 fun v H6=>∃ xs,H6 D=some (.lst xs)∧xs.length < yaW∧N τ4 (upd H6 D (.lst (xs ++ [v]))) else N τ4 H5):=by
 refine ⟨fun i m τ H=>m=n - i∧i≤n∧Pv i τ H,⟨n,by simp,ya2 _,h0⟩,?_⟩
 rintro i m τ H ⟨rfl,hi,p⟩
 by_cases hlt:i < n
 ·exact .inr ⟨go i τ H hlt p,Pv (i+1),fun τ' H' p'=>⟨n - (i+1),by omega,rfl,hlt,p'⟩,fun x H3 y=>hs i τ H x H3 hlt p y⟩
 ·have e:i=n:=by omega
  subst e
  exact .inl ⟨stop τ H p,hd τ H p⟩
theorem zcg:SlR X (fun x lo hi H Q=>∃ z,x = .str z∧z.length≤yaW∧Q (.str (ya3 z lo hi)) H):=by
 intro pins s σ H x v vl vu lo hi sl Q I rx hs pl pu h
 obtain ⟨z,rfl,hz,q⟩:=h
 obtain ⟨t,rfl⟩:=rx
 have fin:∀ t' k,EP X pins σ Q (.str (ya3 z lo hi) t') { s with toks:=k }:=fun t' k=>⟨.str _,H,I.tok _,⟨_,rfl⟩,q⟩
 refine ⟨"str",_,F.slot_str_getitem.lookup,yfC _ _ _,?_⟩
 cases pl with
 | none =>
  cases pu with
  | none=>exact ydb (l:=none) (u:=none) (st:=none) hs rfl (yeW ⟨ya1 (ycF z _ _) hz,fin⟩)
  | int j tj=>exact ydb (l:=none) (u:=some (j,tj)) (st:=none) hs rfl (yeW ⟨ya1 (ycF z _ _) hz,fin⟩)
 | int i ti =>
  cases pu with
  | none=>exact ydb (l:=some (i,ti)) (u:=none) (st:=none) hs rfl (yeW ⟨ya1 (ycF z _ _) hz,fin⟩)
  | int j tj=>exact ydb (l:=some (i,ti)) (u:=some (j,tj)) (st:=none) hs rfl (yeW ⟨ya1 (ycF z _ _) hz,fin⟩)
theorem zb2:CallR X (.type "int") (fun xs H Q=>∃ z n,xs = [.str z]∧z.length≤640∧PySem.intText? z=some n∧Q (.int n) H):=by
 intro pins s σ H xs us Q I r h
 obtain ⟨z,n,rfl,hz,hn,q⟩:=h
 obtain ⟨u,rfl,t,rfl⟩:=vals1 r
 exact PySem.W.KIN.call_text hn hz ⟨.int n,H,I.tok _,⟨_,rfl⟩,q⟩
theorem zgi:CallR X (.type "str") (fun xs H Q=>∃ z,xs = [.str z]∧Q (.str z) H):=by
 intro pins s σ H xs us Q I r h
 obtain ⟨z,rfl,q⟩:=h
 obtain ⟨u,rfl,t,rfl⟩:=vals1 r
 exact PySem.P.str_of_str ⟨.str z,H,I,⟨t,rfl⟩,q⟩
def strV:V→Str
 | .int i=>(toString i:String)
 | .str z=>z
 | _=>Str.empty
theorem zc3:CallR X (.type "str") (fun xs H Q=>∃ x,xs = [x]∧((∃ i,x = .int i∧i.natAbs.log2 < 1920)∨∃ z,x = .str z)∧Q (.str (strV x)) H):=by
 intro pins s σ H xs us Q I r h
 obtain ⟨x,rfl,hx,q⟩:=h
 rcases hx with ⟨i,rfl,hi⟩ | ⟨z,rfl⟩
 ·exact zcj pins s σ H _ us Q I r ⟨i,rfl,hi,q⟩
 ·exact zgi pins s σ H _ us Q I r ⟨z,rfl,q⟩
theorem zcK:MtR X "str.startswith" (fun x xs H Q=>∃ z y,x = .str z∧xs = [.str y]∧Q (.bl (Txt.startswith z y)) H):=by
 intro pins s σ H x xs v us Q I rx rv h
 obtain ⟨z,y,rfl,rfl,q⟩:=h
 obtain ⟨t,rfl⟩:=rx
 obtain ⟨u,rfl,t',rfl⟩:=vals1 rv
 exact SC.startswith ⟨.bl _,H,I,rfl,q⟩
theorem zis:MtR X "str.endswith" (fun x xs H Q=>∃ z y,x = .str z∧xs = [.str y]∧Q (.bl (ycG z y)) H):=by
 intro pins s σ H x xs v us Q I rx rv h
 obtain ⟨z,y,rfl,rfl,q⟩:=h
 obtain ⟨t,rfl⟩:=rx
 obtain ⟨u,rfl,t',rfl⟩:=vals1 rv
 exact SC.endswith ⟨.bl _,H,I,rfl,q⟩
theorem strs_of:∀ {ys:List Str} {us:List Value},Vals (ys.map V.str) us→StrsAre us ys
 | [],us,r=>by rw [yeu] at r;cases r;exact .nil
 | y :: ys,us,r=>by
  rw [yan] at r
  cases r with
  | cons r1 r2 =>
   obtain ⟨t,e⟩:=r1
   subst e
   exact .cons y t (strs_of r2)
theorem mt_join:MtR X "str.join" (fun x xs H Q=>∃ (z:Str) (l:Addr) (ys:List Str),x = .str z∧xs = [.ref l]∧SqL X.K H l (ys.map V.str)∧(ys.map (·.length)).sum+ys.length*z.length≤16777216∧Q (.str (ybG z ys)) H):=by
 intro pins s σ H x xs v us Q I rx rv h
 obtain ⟨z,l,ys,rfl,rfl,hl,hz,q⟩:=h
 obtain ⟨t,rfl⟩:=rx
 obtain ⟨u,rfl,ru⟩:=vals1 rv
 cases ru
 obtain ⟨its,r,p,_⟩:=I.list hl
 exact join_list p.isList (by simpa using strs_of r) hz fun t' k=>⟨.str _,H,I.tok _,⟨_,rfl⟩,q⟩
theorem call_isiT:CallR X (.builtin "isinstance") (fun xs H Q=>∃ x T t b,xs = [x,.ty T]∧TyOf X.K H x t∧ybA X.K t (.type T)=some b∧Q (.bl b) H):=by
 intro pins s σ H xs us Q I r h
 obtain ⟨x,T,t,b,rfl,ty,hk,q⟩:=h
 obtain ⟨v,w',rfl,rx,rw'⟩:=vals2 r
 cases rw'
 exact isinst_ok I rx ty hk fun tk=>⟨.bl b,H,I.tok tk,rfl,q⟩
theorem vals_bl:∀ {bs:List Bool} {us:List Value},Vals (bs.map V.bl) us→us=bs.map yds
 | [],us,r=>by rw [yeu] at r;cases r;rfl
 | b :: bs,us,r=>by
  rw [yan] at r
  cases r with
  | cons r1 r2=>cases r1;rw [vals_bl r2];rfl
theorem all_range (bs:List Bool):(ycz bs.length).all (fun i=>bs.getD i true)=bs.all id:=by
 rw [yb3]
 simp only [yaP,yek,id]
 constructor
 ·intro h b hb
  obtain ⟨i,hi,rfl⟩:=List.mem_iff_getElem.mp hb
  have:=h i hi
  rw [ybf,yab hi] at this
  exact this
 ·intro h i hi
  rw [ybf,yab hi]
  exact h _ (yam hi)
theorem call_all (hc:X.calm=true):CallR X (.builtin "all") (fun xs H Q=>∃ (l:Addr) (bs:List Bool),xs = [.ref l]∧H l=some (.lst (bs.map V.bl))∧Q (.bl (bs.all id)) H):=by
 intro pins s σ H xs us Q I r h
 obtain ⟨l,bs,rfl,hl,q⟩:=h
 obtain ⟨u,rfl,ru⟩:=vals1 r
 cases ru
 obtain ⟨its,rv,p,hz⟩:=I.list (SqL.of hl)
 have ei:=vals_bl rv
 subst ei
 have hlt:l < s.heap.objs.size:=I.hok.lt hl
 refine call_all_walk (ycI p.isList ?_)
 refine ⟨s.heap.objs.size,_,_,_,_,_,(fun i=>bs.getD i true),rfl,Walks.list (A:=X.A.in1) (show X.A.in1.handled=none from I.ok.hd hc) s.heap.objs.size l (yaF hlt) (bs.map yds).toArray,⟨⟨_,yai _ rfl,rfl,rfl⟩,?_⟩,?_,?_⟩
 ·obtain ⟨o,ho,hr⟩:=p.isList
  exact ⟨o,yad _ ho,hr⟩
 ·intro i v s1 Q1 E1 hP hQ
  have hP':(bs.map yds)[i]? = some v:=by simpa using hP
  rw [yae] at hP'
  cases hb:bs[i]? with
  | none=>rw [hb] at hP';cases hP'
  | some b =>
   rw [hb] at hP'
   have ev:v=yds b:=(yas hP').symm
   subst ev
   refine ybN ?_
   dsimp only at hQ
   rw [ybf,hb] at hQ
   exact hQ
 ·intro h' tk kp
  have e:(ycz (bs.map yds).toArray.size).all (fun i=>bs.getD i true)=bs.all id:=by
   rw [yaH,yaa,all_range]
  rw [e]
  have I0:Inv X pins σ H { s with heap:=s.heap.push { cls := .type "list_iterator",data := .fields #[.ref l,.int 0 0] } }:=I.kept (t':=s.toks) fun b o e2=>yad _ e2
  refine ⟨.bl (bs.all id),H,I0.turned (it:=s.heap.objs.size) (fun b o hb e2=>kp b o (by simpa using hb) e2) (I.hok.fresh (yag _)) ?_ ?_ ?_ ?_,rfl,q⟩
  ·exact ycc I.lt
  ·exact .inr I.sz
  ·exact (I.fpOk (H':=H) (yag _) (I.hok.fresh (yag _))).2.2.2.2.1
  ·exact (I.fpOk (H':=H) (yag _) (I.hok.fresh (yag _))).2.2.2.2.2
def eqL:List V→List V→Bool
 | [],[]=>true
 | x :: xs,y :: ys=>eqV x y&&eqL xs ys
 | _,_=>false
theorem zeQ:∀ {xs ys:List V},xs.length=ys.length→(ycz xs.length).all (fun j=>eqV (xs.getD j .non) (ys.getD j .non))=eqL xs ys
 | [],[],_=>rfl
 | x :: xs,y :: ys,h=>by
  have h':xs.length=ys.length:=ycH h
  rw [yal,List.range_succ_eq_map,yeI,ycw,eqL,← zeQ h']
  rfl
theorem zid:∀ {xs ys:List V},xs.length≠ys.length→eqL xs ys=false
 | [],[],h=>absurd rfl h
 | [],_ :: _,_=>rfl
 | _ :: _,[],_=>rfl
 | x :: xs,y :: ys,h=>by
  rw [eqL,zid fun e=>h (by rw [yal,yal,e]),yfo]
def rEqL (K:PySem.W.Frag) (neg:Bool):R2:=fun x y H Q=>∃ a b xs ys,x = .ref a∧y = .ref b∧SqL K H a xs∧SqL K H b ys∧xs.all flatV=true∧ys.all flatV=true∧Q (.bl (if neg then !eqL xs ys else eqL xs ys)) H
theorem zd2 {A:Around} {s:Shared} {xs ys:List V} {us ws:List Value} (r:Vals xs us) (q:Vals ys ws) (fx:xs.all flatV=true) (fy:ys.all flatV=true) :
  ∀ j (h1:j < us.toArray.size) (h2:j < ws.toArray.size),SeqAt.EqAt A s us.toArray[j] ws.toArray[j] (eqV (xs.getD j .non) (ys.getD j .non)):=by
 intro j h1 h2
 have h1':j < us.length:=by simpa using h1
 have h2':j < ws.length:=by simpa using h2
 have hx:j < xs.length:=by rw [r.length];exact h1'
 have hy:j < ys.length:=by rw [q.length];exact h2'
 obtain ⟨u,eu,ru⟩:=r.get (i:=j) (x:=xs[j]) (yab hx)
 obtain ⟨w',ew,rw'⟩:=q.get (i:=j) (x:=ys[j]) (yab hy)
 have e1:us.toArray[j]=u:=by
  have:us[j]? = some us[j]:=yab h1'
  rw [this] at eu
  simpa using yas eu
 have e2:ws.toArray[j]=w':=by
  have:ws[j]? = some ws[j]:=yab h2'
  rw [this] at ew
  simpa using yas ew
 rw [e1,e2,ybf,ybf,yab hx,yab hy]
 exact zew ru rw' (yaP.mp fx _ (yam hx)) (yaP.mp fy _ (yam hy))
theorem op_eqL (hu:X.A.units < cLine):OpR X (ybo .Eq) (rEqL X.K false):=by
 intro pins s σ H x y v u Q I rx ry h
 obtain ⟨a,b,xs,ys,rfl,rfl,ha,hb,fx,fy,q⟩:=h
 cases rx;cases ry
 obtain ⟨us,r1,p1,z1⟩:=I.list ha
 obtain ⟨ws,r2,p2,z2⟩:=I.list hb
 by_cases hl:xs.length=ys.length
 ·refine SeqAt.eq_listAt (e:=fun j=>eqV (xs.getD j .non) (ys.getD j .non)) p1.isList p2.isList (by simp [← r1.length,← r2.length,hl]) hu (zd2 r1 r2 fx fy) ?_
  rw [yaH,← r1.length,zeQ hl]
  exact ⟨.bl _,H,I,rfl,q⟩
 ·refine SeqAt.eq_list_lengthsAt p1.isList p2.isList (by simp [← r1.length,← r2.length,hl]) hu ?_
  rw [if_neg (by decide),zid hl] at q
  exact ⟨.bl false,H,I,rfl,q⟩
theorem op_neL (hu:X.A.units < cLine):OpR X (ybo .NotEq) (rEqL X.K true):=by
 intro pins s σ H x y v u Q I rx ry h
 obtain ⟨a,b,xs,ys,rfl,rfl,ha,hb,fx,fy,q⟩:=h
 cases rx;cases ry
 obtain ⟨us,r1,p1,z1⟩:=I.list ha
 obtain ⟨ws,r2,p2,z2⟩:=I.list hb
 by_cases hl:xs.length=ys.length
 ·refine yfg (e:=fun j=>eqV (xs.getD j .non) (ys.getD j .non)) p1.isList p2.isList (by simp [← r1.length,← r2.length,hl]) hu (zd2 r1 r2 fx fy) X.prog X.w _ _ ?_
  rw [yaH,← r1.length,zeQ hl]
  exact ⟨.bl _,H,I,rfl,q⟩
 ·refine SeqAt.RcNeAt.lists_lengths p1.isList p2.isList (by simp [← r1.length,← r2.length,hl]) hu X.prog X.w _ _ ?_
  rw [if_pos rfl,zid hl] at q
  exact ⟨.bl true,H,I,rfl,q⟩
def CDivB (i j:Int):Prop:=0 < j∧j < 2 ^ 64
theorem zdd:OpR X (yeH .FloorDiv) (rI CDivB fun i j => .int (i / j)):=opI fun i j _ _ _ _ _ hc q=>by
 refine floordiv_int (by have:=hc.1;omega) ?_ (.inl (PyProof.noPylong_of_log2 ?_))
 ·rw [Int.fdiv_eq_ediv_of_nonneg _ (Int.le_of_lt hc.1)];exact q
 ·have hj:j.natAbs < 2 ^ 64:=by have h1:=hc.1;have h2:=hc.2;omega
  by_cases h0:j.natAbs=0
  ·rw [h0];decide +kernel
  ·have:=(Nat.log2_lt h0).mpr hj
   omega
end
structure Fx (K:PySem.W.Frag) (mg:Str→Option Value) (x:Str) (st:Stmt) (ps:List Str) where
 f:Addr
 fd:FuncData
 fn:Fun K x x st f fd
 bi:Binds K fd ps []
 gl:mg x=some (.ref f)
theorem zam {X:Cx} {x:Str} {st:Stmt} {ps:List Str} {k:Nat} {sp:Sp} {e:Expr} {es:List Expr} {t:TA} {p pos:Pos} {F:Fx X.K X.mg x st ps} (G:FnOk X.prog X.w X.K X.mg X.base CX0 k F.f F.fd ps sp) (hr:Room k X.A) (hg:Gl X x) (ha:PA X (e :: es) t)
  (hdb:(x == ("__debug__" : Str))=false:=by decide) (he:ya6 (e :: es) X.env=(false,eval e X.env) :: ya6 es X.env:=by rfl) (hpl:(yer pos (ya6 es X.env)).any (·.1)=false:=by rfl) :
  PE X (.Call (.Name x p) (e :: es) [] pos) (tCall sp [] E0 t):=pe_call G hr hg F.gl F.fn.kp F.bi .nil pass0 ha hdb he hpl
theorem Same.upd {H H':Hp} {a:Addr} {o:HO} (s:Same H H') (h:H a=none):Same H (L2.upd H' a o):=fun b u e=>by
 rw [zar (za7 e h)];exact s b u e
theorem Same.new {H:Hp} {a:Addr} {o:HO} (h:H a=none):Same H (L2.upd H a o):=(Same.refl H).upd h
theorem zbR {K:PySem.W.Frag} {T:String}:ybA K (.type T) (.type T)=some true:=by
 unfold ybA;rw [if_pos (by simp)]
theorem za0:ybw "len" = some (.builtin "len"):=by decide +kernel
theorem bt_abs:ybw "abs" = some (.builtin "abs"):=by decide +kernel
theorem bt_all:ybw "all" = some (.builtin "all"):=by decide +kernel
theorem zaE:ybw "isinstance" = some (.builtin "isinstance"):=by decide +kernel
theorem zen:ybw "sorted" = some (.builtin "sorted"):=by decide +kernel
theorem zdO:ybw "int" = some (.type "int"):=by decide +kernel
theorem zdk:ybw "str" = some (.type "str"):=by decide +kernel
theorem bt_bool:ybw "bool" = some (.type "bool"):=by decide +kernel
theorem ze1:ybw "list" = some (.type "list"):=by decide +kernel
theorem zbT:ybw "tuple" = some (.type "tuple"):=by decide +kernel
theorem bt_dict:ybw "dict" = some (.type "dict"):=by decide +kernel
theorem zcR {α:Type} {xs:List α} {i:Int} {v:α} (h0:0≤i) (h:xs[i.toNat]? = some v):atI xs i=some v:=by
 have e:i=((i.toNat:Nat):Int):=by omega
 rw [e]
 exact atI_nat (by simpa using h)
theorem zbd {ds:List Int} {i:Int} (h0:0≤i) (h1:i < ds.length):atI (ds.map V.int) i=some (.int (ds.getD i.toNat 0)):=by
 refine zcR h0 ?_
 have hj:i.toNat < ds.length:=by omega
 rw [yae,ybf,yab hj]
 rfl
theorem atI_strs {ys:List Str} {i:Int} (h0:0≤i) (h1:i < ys.length):atI (ys.map V.str) i=some (.str (ys.getD i.toNat Str.empty)):=by
 refine zcR h0 ?_
 have hj:i.toNat < ys.length:=by omega
 rw [yae,ybf,yab hj]
 rfl
theorem ziC {ys:List Nat} {i:Int} (h0:0≤i) (h1:i < ys.length):atI ys i=some (ys.getD i.toNat 0):=by
 refine zcR h0 ?_
 have hj:i.toNat < ys.length:=by omega
 rw [ybf,yab hj]
 rfl
theorem getD_mem {α:Type} {l:List α} {j:Nat} {d:α} (h:j < l.length):l.getD j d∈l:=by
 rw [ybf,yab h]
 exact yam h
theorem zac {n:Nat} (h:n≤100000):n≤yaW:=ya1 h (by rw [sizeLine_eq];decide)
theorem zai {n:Nat} (h:n < 100000):n < yaW:=yaT h (by rw [sizeLine_eq];decide)
section
variable {X:Cx} {K:PySem.W.Frag}
theorem zaj (h:X.K=K):IxR X (rIxL K):=h ▸ ix_list
theorem zaK (h:X.K=K):IxR X (rIxT K):=h ▸ ix_tup
theorem za4 (h:X.K=K):SlR X (rSlL K):=h ▸ sl_list
theorem sl_tupK (h:X.K=K):SlR X (rSlT K):=h ▸ sl_tup
theorem zcF (h:X.K=K):OpR X (ybo .In) (rIn K false):=h ▸ op_in_seq
theorem zcL (h:X.K=K):OpR X (ybo .NotIn) (rIn K true):=h ▸ zhp
theorem op_eqLK (h:X.K=K) (hu:X.A.units < cLine):OpR X (ybo .Eq) (rEqL K false):=h ▸ op_eqL hu
theorem op_neLK (h:X.K=K) (hu:X.A.units < cLine):OpR X (ybo .NotEq) (rEqL K true):=h ▸ op_neL hu
theorem zap (h:X.K=K):CallR X (.builtin "len") (fun xs H Q=>∃ p ys,xs = [.ref p]∧(SqL K H p ys∨SqT K H p ys)∧Q (.int ys.length) H):=h ▸ zgR
theorem zcP (h:X.K=K):CallR X (.type "list") (fun xs H Q=>∃ p ys,xs = [.ref p]∧(SqL K H p ys∨SqT K H p ys)∧∀ l,H l=none→Q (.ref l) (upd H l (.lst ys))):=h ▸ zhe
theorem zbl (h:X.K=K):CallR X (.type "tuple") (fun xs H Q=>∃ p ys,xs = [.ref p]∧((SqL K H p ys∧∀ l,H l=none→Q (.ref l) (upd H l (.tup ys)))∨(SqT K H p ys∧Q (.ref p) H))):=h ▸ zf9
theorem za3 (h:X.K=K):CallR X (.builtin "isinstance") (fun xs H Q=>∃ x T t b,xs = [x,.ty T]∧TyOf K H x t∧ybA K t (.type T)=some b∧Q (.bl b) H):=h ▸ call_isiT
theorem zcl (h:X.K=K):MtR X "str.join" (fun x xs H Q=>∃ (z:Str) (l:Addr) (ys:List Str),x = .str z∧xs = [.ref l]∧SqL K H l (ys.map V.str)∧(ys.map (·.length)).sum+ys.length*z.length≤16777216∧Q (.str (ybG z ys)) H):=h ▸ mt_join
theorem zaQ {tg l:Expr} {tl:TE} (h:X.K=K) (hl:PE X l tl):PI X tg l (iList K tl):=h ▸ pi_list hl
theorem zca {tg l:Expr} {tl:TE} (h:X.K=K) (hl:PE X l tl):PI X tg l (iTup K tl):=h ▸ pi_tup hl
variable {o e:Expr} {es:List Expr} {to:TE} {t:TA} {name:Str} {apos cpos:Pos} {T id:String} {r:V→List V→Hp→VK→Prop}
theorem pe_bm0K (h:X.K=K) (pa:PlainAttrs T) (slot:Slot T name id) (hty:typeOf (.builtin id)=pure (.type "method_descriptor")) (hm:MtR X id r) (ho:PE X o to)
  (hbase:ydt o name X.env (eval o X.env)=eval o X.env:=by rfl) (hline:(apos.endLine == cpos.line)=true:=by rfl):PE X (.Call (.Attribute o name apos) [] [] cpos) (tBM0 K T r to):=h ▸ pe_bm0 pa slot hty hm ho hbase hline
theorem zaY (h:X.K=K) (pa:PlainAttrs T) (slot:Slot T name id) (hty:typeOf (.builtin id)=pure (.type "method_descriptor")) (hm:MtR X id r) (ho:PE X o to) (ha:PA X (e :: es) t)
  (hbase:ydt o name X.env (eval o X.env)=eval o X.env:=by rfl)
  (hfew:((yer cpos (ya6 (e :: es) X.env)).all (fun x => !x.1)&&(backToKw cpos (yeT [] X.env)).all (fun x=>x.1.isSome)
   && decide ((e :: es).length+([]:List Keyword).length+(if ([]:List Keyword).isEmpty then 0 else 1) < 30))=true:=by rfl)
  (hline:(apos.endLine == cpos.line)=true:=by rfl) (hs:ya6 (e :: es) X.env=(false,eval e X.env) :: ya6 es X.env:=by rfl) (hplain:(yer cpos (ya6 es X.env)).any (·.1)=false:=by rfl) :
  PE X (.Call (.Attribute o name apos) (e :: es) [] cpos) (tBM K T r to t):=h ▸ pe_bm pa slot hty hm ho ha hbase hfew hline hs hplain
theorem zeZ {f:Str} {pos:Pos} {ta:TE} (h:X.K=K) (he:PE X e ta) (hb:ydt e f X.env (eval e X.env)=eval e X.env):PE X (.Attribute e f pos) (tFld K ta f):=h ▸ pe_fld he hb
theorem zbL {es:List Expr} {k n:Nat} {t:TGs} {pos:Pos} (hK:X.K=K) (hc:X.calm=true) (h:PGs X es t)
  (hn:(yea es X.env).length=n:=by rfl) (hst:(yea es X.env).findIdx? (·.1)=none:=by rfl):PG X (.Tuple es k pos) (gTup K n t):=hK ▸ pg_tup hc h hn hst
end
structure Mx (K:PySem.W.Frag) (C:Addr) (m qual:Str) (st:Stmt) (ps:List Str) where
 f:Addr
 fd:FuncData
 fn:Fun K m qual st f fd
 bi:Binds K fd ps []
 me:Meth K C m f
section
variable {X:Cx} {C:Addr} {m qual:Str} {st:Stmt} {ps:List Str} {k:Nat} {sp:Sp} {o e:Expr} {es:List Expr} {ta:TE} {t:TA} {apos pos:Pos}
theorem pe_mown {pl:Sem Bool} {F:Mx X.K C m qual st ps} (c:Cls X.K C) (G:FnOk X.prog X.w X.K X.mg X.base CX0 k F.f F.fd ps sp) (hr:Room k X.A) (ho:PE X o ta) (ha:PA X (e :: es) t)
  (hst:ya6 (e :: es) X.env=(false,eval e X.env) :: ya6 es X.env:=by rfl) (hpl:(yer pos (ya6 es X.env)).any (·.1)=false:=by rfl)
  (ht:eval (.Call (.Attribute o m apos) (e :: es) [] pos) X.env=(do
   let ov ← eval o X.env
   standAt apos.atName
   let (f,first) ← holding [ov] (getMethod ov m pl)
   callWith pos f first (yer pos (ya6 (e :: es) X.env)) (backToKw pos (yeT [] X.env))):=by rfl) :
  PE X (.Call (.Attribute o m apos) (e :: es) [] pos) (tMeth C m sp [] E0 ta t):=pe_meth ho c F.me G hr F.bi .nil pass0 ha hst hpl ht
theorem pe_mown0 {pl:Sem Bool} {F:Mx X.K C m qual st ps} (c:Cls X.K C) (G:FnOk X.prog X.w X.K X.mg X.base CX0 k F.f F.fd ps sp) (hr:Room k X.A) (ho:PE X o ta)
  (ht:eval (.Call (.Attribute o m apos) [] [] pos) X.env=(do
   let ov ← eval o X.env
   standAt apos.atName
   let (f,first) ← holding [ov] (getMethod ov m pl)
   callWith pos f first (yer pos (ya6 [] X.env)) (backToKw pos (yeT [] X.env))):=by rfl) :
  PE X (.Call (.Attribute o m apos) [] [] pos) (tMeth C m sp [] E0 ta tNil):=pe_meth0 ho c F.me G hr F.bi .nil pass0 ht
end
section
variable {X:Cx}
end
section
variable {prog:Program} {w:World} {A:Around} {E:Value→Shared→Prop}
end
section
variable {X:Cx}
end
section
variable {M:Model} {A:Around} {E:Value→Shared→Prop} {s:Shared} {base:Heap} {env:Env} {outer:List Env} {L e:Addr} {Q:Unit→Shared→Prop}
end
section
variable {P:Program} {w:World} {H:Hp} {h h':Heap} {fs xs:List Addr}
end
section
variable {P:Program} {w:World} {K:PySem.W.Frag} {mg:Str→Option Value} {base:Heap} {N:List Str} {qual:Str} {scope:Scope} {f:Addr} {cd:Value} {A:Around} {outer:List Env} {s0:Shared} {H0:Hp} {E:XK}
end
section
variable {P:Program} {w:World} {K:PySem.W.Frag} {mg:Str→Option Value} {base:Heap} {N:List Str} {qual:Str} {scope:Scope} {f:Addr} {cd:Value} {A:Around} {outer:List Env} {s0:Shared} {H0:Hp} {E:XK}
end
end L2
namespace L2
open PySem PySem.Spec PyProof.Rows PySem.W
section
variable {prog:Program} {w:World} {A:Around} {E:Value→Shared→Prop} {s:Shared} {K:PySem.W.Frag} {x D:Addr} {ox:Obj}
end
section
variable {X:Cx} {pins:List (Addr×Obj)} {σ:St} {H:Hp} {s:Shared} {h2:Heap} {xs:List Addr}
end
section
variable {X:Cx} {pins pins':List (Addr×Obj)} {σ:St} {H:Hp} {s:Shared}
end
section
variable {X:Cx} {ex:St→XK} {C:Addr} {m qual:Str} {st:Stmt} {ps:List Str} {k:Nat} {sp:Sp} {o e:Expr} {es:List Expr} {ta:TE} {t:TA} {apos pos:Pos}
end
section
variable {X:Cx} {K:PySem.W.Frag}
end
section
variable {P:Program} {w:World} {K:PySem.W.Frag} {mg:Str→Option Value} {base:Heap}
end
section
variable {P:Program} {w:World} {K:PySem.W.Frag} {mg:Str→Option Value} {base:Heap} {N:List Str} {qual q2:Str} {scope:Scope} {f:Addr} {cd:Value} {A:Around} {outer:List Env} {s0:Shared} {H0:Hp} {E:XK}
 {C:Addr} {m:Str} {st:Stmt} {ps:List Str} {k:Nat} {sp:Sp} {o e:Expr} {es:List Expr} {ta:TE} {t:TA} {apos pos:Pos}
end
section
variable {X:Cx} {a:Addr} {ks:List Str}
variable {w:World} {K:PySem.W.Frag}
end
structure Tb (t:SetTable):Prop where
 mask:t.mask=7
 dum:t.dummies = #[]
 few:t.place.size≤5
theorem zcm (t:SetTable) (T:Tb t) (p:SetTable.Probe) (h:p.more=0) :
  (t.advance p).more=0∧(t.advance p).j=(p.i*5+1+p.perturb / 32) % 8∧(t.advance p).i=(p.i*5+1+p.perturb / 32) % 8∧(t.advance p).perturb=p.perturb / 32∧(t.advance p).dummy=p.dummy:=by
 unfold SetTable.advance
 rw [if_neg (by omega),T.mask]
 unfold SetTable.leap
 refine ⟨?_,rfl,rfl,rfl,rfl⟩
 show yeX 7 _ - _=0
 unfold yeX
 split <;> omega
def adv (t:SetTable):Nat→SetTable.Probe→SetTable.Probe
 | 0,p=>p
 | n+1,p=>adv t n (t.advance p)
theorem ziV (t:SetTable):∀ (n:Nat) (p:SetTable.Probe),adv t (n+1) p=t.advance (adv t n p)
 | 0,_=>rfl
 | n+1,p=>ziV t n (t.advance p)
theorem zhY (t:SetTable):∀ (n m:Nat) (p:SetTable.Probe),adv t (n+m) p=adv t m (adv t n p)
 | 0,m,p=>by rw [Nat.zero_add];rfl
 | n+1,m,p=>by rw [Nat.succ_add];exact zhY t n m (t.advance p)
theorem zeg {t:SetTable} (T:Tb t):∀ (n:Nat) {p:SetTable.Probe},p.more=0→(adv t n p).more=0
 | 0,_,h=>h
 | n+1,_,h=>zeg T n (zcm t T _ h).1
theorem zhK {t:SetTable} (T:Tb t):∀ (n:Nat) {p:SetTable.Probe},p.more=0→(adv t n p).dummy=p.dummy
 | 0,_,h=>rfl
 | n+1,_,h=>(zhK T n (zcm t T _ h).1).trans (zcm t T _ h).2.2.2.2
theorem ze5 {t:SetTable} (T:Tb t):∀ (n:Nat) {p:SetTable.Probe},p.more=0→(adv t n p).perturb=p.perturb / 32 ^ n
 | 0,p,_=>by rw [Nat.pow_zero,Nat.div_one];rfl
 | n+1,p,h=>by
  show (adv t n (t.advance p)).perturb=_
  rw [ze5 T n (zcm t T _ h).1,(zcm t T _ h).2.2.2.1,Nat.div_div_eq_div_mul,Nat.pow_succ,Nat.mul_comm]
def cyc:Nat→Nat→Nat
 | 0,i=>i
 | n+1,i=>cyc n ((i*5+1) % 8)
theorem adv_cyc {t:SetTable} (T:Tb t):∀ (n:Nat) {p:SetTable.Probe},p.more=0→p.perturb=0→(adv t n p).i=cyc n p.i
 | 0,_,_,_=>rfl
 | n+1,p,h,h0=>by
  obtain ⟨a,_,c,d,_⟩:=zcm t T p h
  show (adv t n (t.advance p)).i=cyc n ((p.i*5+1) % 8)
  rw [adv_cyc T n a (by rw [d,h0]),c,h0]
theorem cyc_all:∀ i,i < 8→∀ j,j < 8→∃ n,n < 8∧cyc n i=j:=by decide +kernel
theorem adv_i {t:SetTable} (T:Tb t) {p:SetTable.Probe} (h:p.more=0) (n:Nat):(adv t (n+1) p).j=(adv t (n+1) p).i∧(adv t (n+1) p).i < 8:=by
 rw [ziV]
 obtain ⟨_,b,c,_⟩:=zcm t T _ (zeg T n h)
 rw [b,c]
 exact ⟨rfl,Nat.mod_lt _ (by decide)⟩
theorem adv_meets {t:SetTable} (T:Tb t) {p:SetTable.Probe} (h:p.more=0) (hb:p.perturb < 2 ^ 64) {j:Nat} (hj:j < 8):∃ n,n≤22∧(adv t n p).j=j:=by
 have h14:=adv_i T h 13
 have z:(adv t 14 p).perturb=0:=by
  rw [ze5 T 14 h]
  exact Nat.div_eq_of_lt (yaT hb (by decide))
 obtain ⟨n,hn,e⟩:=cyc_all _ h14.2 j hj
 refine ⟨14+n,by omega,?_⟩
 have e2:(adv t (14+n) p).i=j:=by rw [zhY,adv_cyc T n (zeg T 14 h) z,e]
 have e3:=(adv_i T h (13+n)).1
 rw [show 13+n+1=14+n by omega] at e3
 rw [e3,e2]
theorem zjR {t:SetTable} (T:Tb t) {j:Nat} (h:j∉t.place.toList):t.slot j = .empty:=by
 unfold SetTable.slot
 have h1:¬ (t.place[yaZ t.place j]? == some j)=true:=fun e=>by
  rw [beq_iff_eq] at e
  exact h (by rw [← ybI] at e;exact ycm e)
 have h2:yev t.dummies j=false:=by
  unfold yev
  rw [T.dum]
  rfl
 dsimp only
 rw [if_neg h1,h2]
 rfl
theorem zjv {t:SetTable} (T:Tb t) (j:Nat):t.slot j = .empty∨∃ i,t.slot j = .live i∧i < t.place.size:=by
 unfold SetTable.slot
 dsimp only
 by_cases h1:(t.place[yaZ t.place j]? == some j)=true
 ·rw [if_pos h1]
  rw [beq_iff_eq] at h1
  exact .inr ⟨_,rfl,(Array.getElem?_eq_some_iff.mp h1).1⟩
 ·rw [if_neg h1]
  have h2:yev t.dummies j=false:=by
   unfold yev
   rw [T.dum]
   rfl
  rw [h2]
  exact .inl rfl
theorem zjw:∀ (l:List Nat),l.length≤5→∃ j,j < 8∧j∉l:=by
 intro l hl
 refine Classical.byContradiction fun hn => ?_
 have sub:∀ j,j < 8→j∈l:=fun j hj=>Classical.byContradiction fun h=>hn ⟨j,hj,h⟩
 have key:∀ (k:Nat) (m:List Nat),(∀ j,j < k→j∈m)→k≤m.length:=by
  intro k
  induction k with
  | zero=>intro m _;omega
  | succ k ih =>
   intro m hm
   have h1:=ih (m.erase k) fun j hj=>(List.mem_erase_of_ne (by omega)).mpr (hm j (by omega))
   have h2:=List.length_erase_of_mem (hm k (by omega))
   have h3:=List.length_pos_of_mem (hm k (by omega))
   omega
 have:=key 8 l sub
 omega
theorem adv_ends {t:SetTable} (T:Tb t) {p:SetTable.Probe} (h:p.more=0) (hb:p.perturb < 2 ^ 64):∃ n,n≤22∧t.slot (adv t n p).j = .empty:=by
 obtain ⟨j,hj,hm⟩:=zjw t.place.toList (by rw [yaO];exact T.few)
 obtain ⟨n,hn,e⟩:=adv_meets T h hb hj
 exact ⟨n,hn,by rw [e];exact zjR T hm⟩
theorem ziS {t:SetTable} (T:Tb t) {hashAt:Nat→Int} {h:Int}:∀ (n fuel:Nat) (p:SetTable.Probe),p.more=0→p.dummy=none→t.slot (adv t n p).j = .empty→n < fuel →
  (∃ j,yc3 t hashAt h fuel p=some (.empty j none)) ∨
   ∃ m j i,m < n∧yc3 t hashAt h fuel p=some (.candidate j i (adv t (m+1) p))∧t.slot j = .live i∧i < t.place.size∧hashAt i=h
 | n,0,p,_,_,_,hf=>absurd hf (ycj _)
 | 0,fuel+1,p,hm,hd,he,_=>by
  refine .inl ⟨p.j,?_⟩
  unfold yc3
  rw [show t.slot p.j = .empty from he,hd]
 | n+1,fuel+1,p,hm,hd,he,hf=>by
  unfold yc3
  rcases zjv T p.j with e | ⟨i,e,hi⟩
  ·rw [e,hd]
   exact .inl ⟨_,rfl⟩
  ·rw [e]
   dsimp only
   by_cases hh:(hashAt i == h)=true
   ·rw [if_pos hh]
    exact .inr ⟨0,_,_,by omega,rfl,e,hi,by simpa using hh⟩
   ·rw [if_neg hh]
    obtain ⟨a,_,_,_,d⟩:=zcm t T p hm
    rcases ziS T n fuel (t.advance p) a (d.trans hd) he (by omega) with ⟨j,x⟩ | ⟨m,j,i',hm',x⟩
    ·exact .inl ⟨j,x⟩
    ·exact .inr ⟨m+1,j,i',by omega,x⟩
section
variable {P:Program} {w:World} {κ:Type} [DecidableEq κ] {knd:PySem.KeyKind P w κ} {A:Around} {E:Value→Shared→Prop} {s:Shared}
theorem zi2 {v:Value} (h:carriedByValue v=true) (n:Nat):(∃ b,hashByValue n v=pure b)∧ofAClassStatement n v=pure false:=by
 cases v <;> first
  | (exact absurd h yaK)
  | (cases n <;> exact ⟨⟨_,rfl⟩,rfl⟩)
theorem zhj {ks:List κ} {a:Addr} {Q:Bool→Shared→Prop} (hk:IsTupleKey knd s.heap ks a) (q:Q false s):wpAny (model P w) A (ofAClassStatement 8 (.ref a)) Q E s:=by
 have ty:=hk.typeIs
 obtain ⟨o,its,n,ho,_,hd,hi⟩:=hk
 unfold ofAClassStatement
 refine yac (ycR ty ?_)
 simp only [beq_self_eq_true,if_true]
 refine yac (yaf ?_)
 simp only [yeJ,ya0,if_false]
 refine yac (yct ho hd ?_)
 dsimp only
 refine yac ?_
 rw [← Array.forIn_toList]
 refine wpAny_forIn_list _ (fun left r s'=>r.1=none∧s'=s∧∀ v∈left,carriedByValue v=true) _ ?_ ?_ _ _ ⟨rfl,rfl,hi.byValue⟩
 ·rintro v left r s' ⟨hr,rfl,all⟩
  rw [(zi2 (all v yat) _).2]
  refine yac (yaf ?_)
  rw [if_neg (by decide)]
  exact yaf ⟨rfl,rfl,fun u hu=>all u (yap _ hu)⟩
 ·rintro ⟨r1,r2⟩ s' ⟨hr,rfl,_⟩
  dsimp only at hr
  subst hr
  exact yaf q
theorem byv_tuple {ks:List κ} {a:Addr} {Q:Bool→Shared→Prop} (hk:IsTupleKey knd s.heap ks a) (q:∀ b,Q b s):wpAny (model P w) A (hashByValue 8 (.ref a)) Q E s:=by
 have ty:=hk.typeIs
 obtain ⟨o,its,n,ho,_,hd,hi⟩:=hk
 unfold hashByValue
 refine yac (wpAny_specialOf ty F.slot_tuple_hash.lookup ?_)
 dsimp only
 refine yac (yct ho hd ?_)
 refine yac ?_
 show wpAny _ _ (forIn its _ _) _ _ s
 rw [← Array.forIn_toList]
 refine wpAny_forIn_list _ (fun left r s'=>s'=s∧∀ v∈left,carriedByValue v=true) _ ?_ ?_ _ _ ⟨rfl,hi.byValue⟩
 ·rintro v left r s' ⟨rfl,all⟩
  obtain ⟨b,e⟩:=(zi2 (all v yat) 7).1
  rw [e]
  refine yac (yaf ?_)
  cases b
  ·rw [if_pos (by decide)]
   exact yaf (yaf (q _))
  ·rw [if_neg (by decide)]
   exact yaf ⟨rfl,fun u hu=>all u (yap _ hu)⟩
 ·rintro ⟨r1,r2⟩ s' ⟨rfl,_⟩
  cases r1 with
  | none=>exact yaf (q _)
  | some b=>exact yaf (q _)
theorem zj1 {k:List κ} {x:Addr} {Q:Bool→Shared→Prop} {st:List Value} (hk:IsTupleKey knd s.heap k x) (hs:∀ v∈st,∃ y k',v = .ref y∧IsTupleKey knd s.heap k' y) (q:Q false s) :
  wpAny (model P w) A (searchCouldBeSeen (.ref x) st) Q E s:=by
 unfold searchCouldBeSeen
 refine yac ?_
 refine wpAny_forIn_list _ (fun left r s'=>r.1=none∧s'=s∧∀ v∈left,∃ y k',v = .ref y∧IsTupleKey knd s.heap k' y) _ ?_ ?_ _ _ ⟨rfl,rfl,hs⟩
 ·rintro v left r s' ⟨hr,rfl,all⟩
  obtain ⟨y,k',rfl,hy⟩:=all v yat
  have nx:∀ u∈left,∃ y k',u = .ref y∧IsTupleKey knd s'.heap k' y:=fun u hu=>all u (yap _ hu)
  dsimp only
  refine ydn (fun _=>yaf ⟨rfl,rfl,nx⟩) (fun _ => ?_)
  refine yac (wpAny_eqIsQuiet_tuple hk ?_)
  rw [if_neg (by decide)]
  refine yac (wpAny_eqIsQuiet_tuple hy ?_)
  rw [if_neg (by decide)]
  refine yac (zhj hk ?_)
  rw [if_neg (by decide)]
  refine yac (zhj hy ?_)
  rw [if_neg (by decide)]
  exact yaf ⟨rfl,rfl,nx⟩
 ·rintro ⟨r1,r2⟩ s' ⟨hr,rfl,_⟩
  dsimp only at hr
  subst hr
  exact yaf q
end
theorem zgI {t:SetTable} (T:Tb t) {hashAt:Nat→Int} {h:Int} {p:SetTable.Probe} {n:Nat} {r:Option SetTable.Met} (e:t.probe hashAt h p=r) (hm:p.more=0) (hd:p.dummy=none) (he:t.slot (adv t n p).j = .empty) (hn:n≤200) :
  (∃ j,r=some (.empty j none))∨∃ m j i,m < n∧r=some (.candidate j i (adv t (m+1) p))∧t.slot j = .live i∧i < t.place.size:=by
 subst e
 unfold ydh
 rcases ziS (h:=h) T n (10*SetTable.turns t.mask) p hm hd he (by rw [T.mask];show n < 220;omega) with x | ⟨m,j,i,a,b,c,d,_⟩
 ·exact .inl x
 ·exact .inr ⟨m,j,i,a,b,c,d⟩
section
variable {P:Program} {w:World} {κ:Type} [DecidableEq κ] {knd:PySem.KeyKind P w κ} {A:Around} {E:Value→Shared→Prop} {s:Shared}
structure SH (knd:PySem.KeyKind P w κ) (h:Heap) (a:Addr) (es:Array (Int×Value)) (ep:Nat) (t:SetTable):Prop where
 ob:∃ o,h.get? a=some o∧o.ExactSet∧o.data = .set es ep t
 tb:Tb t
 sz:t.place.size=es.size
 all:∀ e∈es.toList,∃ k y,e=(yb0 knd k,.ref y)∧IsTupleKey knd h k y
theorem Tb.fits {t:SetTable} (T:Tb t) {n:Nat} (h:t.place.size=n):t.fits n=true:=by
 unfold SetTable.fits SetTable.fill
 rw [T.mask,T.dum,h]
 have:=T.few
 simp
 omega
theorem zhS {a x:Addr} {es:Array (Int×Value)} {ep:Nat} {t:SetTable} {k:List κ} {h:Int} {Q:SetFound→Shared→Prop} (S:SH knd s.heap a es ep t) (hx:IsTupleKey knd s.heap k x) (hu:A.units < cLine)
  (ne:∀ k' y,(yb0 knd k',yaD y)∈es.toList→IsTupleKey knd s.heap k' y→k'≠k) (q:∀ j,Q (.free j false) s) :
  ∀ (n fuel:Nat) (stand:Option SetTable.Probe),n≤200→(stand.getD (t.probeStart h)).more=0→(stand.getD (t.probeStart h)).dummy=none→t.slot (adv t n (stand.getD (t.probeStart h))).j = .empty→n < fuel →
   wpAny (model P w) A (yeK a (.ref x) h true fuel stand) Q E s:=by
 intro n fuel
 induction fuel generalizing n with
 | zero=>intro stand _ _ _ _ hf;exact absurd hf (ycj _)
 | succ fuel ih =>
  intro stand hn hm hd he hf
  obtain ⟨o,ho,hex,hda⟩:=S.ob
  have fit:=S.tb.fits S.sz
  have gw:t.gaveWay=false:=by unfold SetTable.gaveWay;rw [S.tb.mask];rfl
  unfold yeK
  refine yac (ybl ho hda fit ?_)
  dsimp only
  rw [gw]
  simp only [ya0,if_false]
  split
  ·rename_i met heq
   rcases zgI S.tb heq hm hd he hn with ⟨j,e⟩ | ⟨m,j,i,hmn,e,hsl,hi⟩
   ·cases e
    exact yaf (q j)
   ·cases e
    dsimp only
    have hi':i < es.size:=by rw [← S.sz];exact hi
    obtain ⟨k',y,ey,hy⟩:=S.all es[i] (by simp)
    have mem:(yb0 knd k',yaD y)∈es.toList:=by rw [← ey];simp
    have hkk:k'≠k:=ne k' y mem hy
    have ei:es[i]? = some (yb0 knd k',yaD y):=by rw [yb6 hi',ey]
    have sm:t.sameMemory t.moves t.mask=some true:=by unfold SetTable.sameMemory;rw [if_pos (by simp)]
    have nxt:wpAny (model P w) A (yeK a (.ref x) h true fuel (some (adv t (m+1) (stand.getD (t.probeStart h))))) Q E s:=by
     refine ih (n - (m+1)) _ (by omega) (zeg S.tb _ hm) ((zhK S.tb _ hm).trans hd) ?_ (by omega)
     show t.slot (adv t (n - (m+1)) (adv t (m+1) _)).j = .empty
     rw [← zhY,show m+1+(n - (m+1))=n by omega]
     exact he
    have fin:wpAny (model P w) A (isSame (.ref y) (.ref y) >>= fun b=>(pure (if b=true then some i else none):Sem (Option Nat)) >>= fun still=>match still with
      | none=>rule "set.search.anew" >>= fun _=>yeK a (.ref x) h true fuel none
      | some i'=>if false=true then pure (SetFound.there (some i')) else yeK a (.ref x) h true fuel (some (adv t (m+1) (stand.getD (t.probeStart h))))) Q E s:=by
     refine yac ?_
     unfold isSame
     dsimp only
     rw [if_pos (by simp)]
     refine yaf (yac (yaf ?_))
     rw [if_pos rfl]
     dsimp only
     rw [if_neg (by decide)]
     exact nxt
    refine ydn (fun _=>yac (zj1 hx (fun v hv => ?_) ?_)) (fun _ => ?_)
    ·obtain ⟨e,he',rfl⟩:=yaG.mp hv
     obtain ⟨k'',y',ee,hy'⟩:=S.all e (by
      have:=(Array.mem_filter.mp (yeD.mp he')).1
      exact yeD.mpr this)
     exact ⟨y',k'',by rw [ee],hy'⟩
    ·rw [if_neg (by decide)]
     rw [ei]
     dsimp only
     refine yac (ya9 (wpAny_eqBool_tuple hu hy hx ?_))
     rw [decide_eq_false hkk]
     refine yac (ybl ho hda fit ?_)
     dsimp only
     rw [if_neg (by decide),sm]
     dsimp only
     rw [if_pos rfl,hsl]
     dsimp only
     rw [ei]
     dsimp only
     exact fin
    ·rw [ei]
     dsimp only
     refine yac (ya9 (wpAny_eqBool_tuple hu hy hx ?_))
     rw [decide_eq_false hkk]
     refine yac (ybl ho hda fit ?_)
     dsimp only
     rw [if_neg (by decide),sm]
     dsimp only
     rw [if_pos rfl,hsl]
     dsimp only
     rw [ei]
     dsimp only
     exact fin
  ·rename_i heq
   rcases zgI S.tb rfl hm hd he hn with ⟨j,e⟩ | ⟨m,j,i,hmn,e,hsl,hi⟩
   ·exact absurd e (heq _)
   ·exact absurd e (heq _)
end
section
variable {P:Program} {w:World} {κ:Type} [DecidableEq κ] {knd:PySem.KeyKind P w κ} {A:Around} {E:Value→Shared→Prop} {s:Shared}
theorem bits_lt (h:Int):SetTable.bits h < 2 ^ 64:=by
 unfold SetTable.bits
 have h0:=ya7 h (show (2 ^ 64:Int)≠0 by decide)
 have h1:=yaU h (show (0:Int) < 2 ^ 64 by decide)
 omega
theorem start_ok {t:SetTable} (T:Tb t) (h:Int):(t.probeStart h).more=0∧(t.probeStart h).dummy=none∧(t.probeStart h).perturb < 2 ^ 64:=by
 refine ⟨?_,rfl,bits_lt h⟩
 show yeX t.mask _ - _=0
 unfold yeX
 by_cases z:SetTable.bits h % (t.mask+1)+9≤t.mask
 ·rw [T.mask] at z
  omega
 ·rw [if_neg z]
  omega
theorem zi8 {α:Type} (xs:Array α) (p:Nat) (x:α):(yc4 xs p x).size=xs.size+1:=by
 have:=(SetTable.insertAt_perm xs p x).length_eq
 simpa using this
theorem ins_mem {α:Type} {xs:Array α} {p:Nat} {x e:α} (h:e∈(yc4 xs p x).toList):e∈xs.toList∨e=x:=by
 have:=(SetTable.insertAt_perm xs p x).mem_iff.mp h
 simpa using this
theorem put_ok {t:SetTable} (T:Tb t) (j:Nat):(t.put j).1.mask=7∧(t.put j).1.dummies = #[]∧(t.put j).1.place.size=t.place.size+1:=by
 have h2:yev t.dummies j=false:=by
  unfold yev
  rw [T.dum]
  rfl
 unfold SetTable.put
 dsimp only
 rw [h2]
 exact ⟨T.mask,T.dum,zi8 _ _ _⟩
theorem zjE {a x:Addr} {es:Array (Int×Value)} {ep:Nat} {t:SetTable} {k:List κ} {Q:Bool→Shared→Prop} (S:SH knd s.heap a es ep t) (few:es.size≤3) (hx:IsTupleKey knd s.heap k x) (hu:A.units < cLine)
  (ne:∀ k' y,(yb0 knd k',yaD y)∈es.toList→IsTupleKey knd s.heap k' y→k'≠k)
  (q:∀ (h':Heap) (es':Array (Int×Value)) (ep':Nat) (t':SetTable),Heap.SameBut a s.heap h'→SH knd h' a es' ep' t'→es'.size=es.size+1 →
   (∀ e∈es'.toList,e∈es.toList∨e=(yb0 knd k,yaD x))→Q true { s with heap:=h' }) :
  wpAny (model P w) A (yew a (.ref x) (yb0 knd k)) Q E s:=by
 obtain ⟨o,ho,hex,hda⟩:=S.ob
 have fit:=S.tb.fits S.sz
 unfold yew
 refine ya9 ?_
 unfold setAddHashedIn
 refine yac (ybl ho hda fit ?_)
 dsimp only
 rw [if_neg (by simp [byScan,Value.scannable])]
 refine yac ?_
 unfold setSearch
 obtain ⟨s0,s1,s2⟩:=start_ok S.tb (yb0 knd k)
 obtain ⟨n,hn,he⟩:=adv_ends S.tb s0 s2
 refine zhS S hx hu ne (fun j => ?_) n 100000 none (by omega) s0 s1 he (by omega)
 dsimp only
 refine yac (ybl ho hda fit ?_)
 dsimp only
 obtain ⟨m1,m2,m3⟩:=put_ok S.tb j
 have nex:∀ {y:Addr} {k':List κ},IsTupleKey knd s.heap k' y→y≠a:=fun {y k'} hy e=>by
  obtain ⟨o',its,n',ho',_,hd',_⟩:=hy
  rw [e,ho] at ho'
  cases ho'
  rw [hda] at hd'
  cases hd'
 have tail:∀ t2:SetTable,t2.mask=7→t2.dummies = #[]→t2.place.size=t.place.size+1 →
   wpAny (model P w) A (storeSet a (yc4 es (t.put j).2 (yb0 knd k,.ref x)) t2 >>= fun _=>if (!false&&t2.tooFull)=true then setRelay a (ybB (es.size+1)) >>= fun _=>pure true else pure true) Q E s:=by
  intro t2 e1 e2 e3
  have sz1:=zi8 es (t.put j).2 (yb0 knd k,yaD x)
  refine yac (ydu ho hda ?_ (by rw [sz1];exact zac (by omega)))
  have full:t2.tooFull=false:=by
   unfold SetTable.tooFull SetTable.fill
   rw [e1,e2,e3,S.sz]
   simp
   omega
  rw [full,if_neg (by decide)]
  have sb:Heap.SameBut a s.heap (s.heap.update a (yc5 (yc4 es (t.put j).2 (yb0 knd k,.ref x)) t2)):=ydc ..
  refine yaf (q _ _ (ep+1) t2 sb ⟨⟨_,ybS _ ho ?_,?_,?_⟩,⟨e1,e2,?_⟩,?_,fun e he => ?_⟩ sz1 fun e he=>ins_mem he)
  ·rw [yfF _ _ hda]
   rfl
  ·rw [yfF _ _ hda]
   exact hex
  ·rw [yfF _ _ hda]
  ·rw [e3,S.sz]
   omega
  ·rw [e3,S.sz,sz1]
  ·have keep:∀ {y:Addr} {k':List κ},IsTupleKey knd s.heap k' y→IsTupleKey knd (s.heap.update a (yc5 (yc4 es (t.put j).2 (yb0 knd k,.ref x)) t2)) k' y:=fun {y k'} hy=>by
    have hne:=nex hy
    obtain ⟨o',its,n',ho',r⟩:=hy
    exact ⟨o',its,n',(sb.2 y hne).trans ho',r⟩
   rcases ins_mem he with he | rfl
   ·obtain ⟨k',y,ee,hy⟩:=S.all e he
    exact ⟨k',y,ee,keep hy⟩
   ·exact ⟨k,x,rfl,keep hx⟩
 by_cases hp:(t.put j).1.plain=true
 ·rw [if_pos hp]
  refine yac (byv_tuple hx fun b => ?_)
  cases b
  ·exact tail _ m1 m2 m3
  ·exact tail _ m1 m2 m3
 ·rw [if_neg hp]
  refine yac (yaf ?_)
  exact tail _ m1 m2 m3
theorem add_tuple {a x:Addr} {es:Array (Int×Value)} {ep:Nat} {t:SetTable} {k:List κ} {Q:Bool→Shared→Prop} (S:SH knd s.heap a es ep t) (few:es.size≤3) (hx:IsTupleKey knd s.heap k x) (hu:A.units < cLine)
  (ne:∀ k' y,(yb0 knd k',yaD y)∈es.toList→IsTupleKey knd s.heap k' y→k'≠k)
  (q:∀ (h':Heap) (tk:Nat) (es':Array (Int×Value)) (ep':Nat) (t':SetTable),Heap.SameBut a s.heap h'→SH knd h' a es' ep' t'→es'.size=es.size+1 →
   (∀ e∈es'.toList,e∈es.toList∨e=(yb0 knd k,yaD x))→s.toks≤tk→Q true { s with heap:=h',toks:=tk }) :
  wpAny (model P w) A (setAdd a (.ref x)) Q E s:=by
 unfold setAdd
 refine ya9 (yac (wpAny_pyHash_tuple hu hx ?_))
 exact zjE (s:={ s with toks:=_ }) S few hx hu ne fun h' es' ep' t' a b c d=>q h' _ es' ep' t' a b c d (by show s.toks≤s.toks+_;omega)
end
section
variable {P:Program} {w:World} {A:Around} {E:Value→Shared→Prop} {s:Shared}
theorem loop_set {R:Result→Shared→Prop} {I S:Addr} {fp:List Addr} {n:Nat} {Pv:Nat→Value→Prop} {St:Nat→Heap→Prop} (W:Walks P w A.in1 I fp [I] n Pv St) (hS:S∉fp) (Good:Nat→Heap→Prop)
  (g1:∀ i h h',Good i h→(∀ b o,b≠I→h.get? b=some o→h'.get? b=some o)→Good i h')
  (g2:∀ (i:Nat) (s:Shared) (v:Value) (Q:Bool→Shared→Prop) (E':Value→Shared→Prop),i < n→Pv i v→Good i s.heap→(∀ h' tk,Heap.SameBut S s.heap h'→Good (i+1) h'→Q true { s with heap:=h',toks:=tk }) →
   wpAny (model P w) A.in1 (setAdd S v) Q E' s) :
  ∀ (k i:Nat) (s:Shared),n - i=k→i≤n→St i s.heap→Good i s.heap →
   (∀ h' tk,(∀ b o,b≠S→b≠I→s.heap.get? b=some o→h'.get? b=some o)→Good n h'→R (.ok (.ret .none)) { s with heap:=h',toks:=tk }) →
   ydB (model P w) A (.builtin "set.update.loop" ⟨[.ref S,.ref I],[]⟩) R s:=by
 have ent:=ydE
 have pln:=ydF
 intro k
 induction k with
 | zero =>
  intro i s hk hi st good q
  obtain rfl:i=n:=by omega
  refine ybx ent ?_;rw [ybi pln _]
  refine yac (W.done s _ _ st fun h' tk kp => ?_)
  exact yaf (q h' tk (fun b o _ b2 e=>kp b o (by simpa using b2) e) (g1 _ _ _ good fun b o hb e=>kp b o (by simpa using hb) e))
 | succ k ih =>
  intro i s hk hi st good q
  have lt:i < n:=by omega
  refine ybx ent ?_;rw [ybi pln _]
  refine yac (W.item i s _ _ lt st fun v h1 tk1 hv st1 kp => ?_)
  have good1:Good i h1:=g1 _ _ _ good fun b o hb e=>kp b o (by simpa using hb) e
  refine yac (ya9 (g2 i { s with heap:=h1,toks:=tk1 } v _ _ lt hv good1 fun h2 tk2 sb good2 => ?_))
  refine yaf ⟨yck pln _,ih (i+1) _ (by omega) lt (W.frame _ h1 h2 st1 fun b hb o e => ?_) good2 fun h3 tk3 kp3 good3 => ?_⟩
  ·exact (sb.2 b fun z=>hS (z ▸ hb)).trans e
  ·refine q h3 tk3 (fun b o b1 b2 e=>kp3 b o b1 b2 ?_) good3
   exact (sb.2 b b1).trans (kp b o (by simpa using b2) e)
end
abbrev set0 (led:Bool):Obj:={ cls := .type "set",dict:=none,data := .set #[] 0 (.fresh 0 0 led) }
section
variable {P:Program} {w:World} {A:Around} {E:Value→Shared→Prop} {s:Shared}
theorem ze0 {T:String} {l:Addr} {n:Nat} {Pv:Nat→Value→Prop} {Q:Value→Shared→Prop} (hh:A.handled=none)
  (f1:isSubtype (.type T) (.type "set")=pure false) (f2:isSubtype (.type T) (.type "frozenset")=pure false) (f3:(ybQ T == ybQ "dict")=false)
  (ty:∀ s':Shared,(∀ b o,s.heap.get? b=some o→s'.heap.get? b=some o)→s'.TypeIs (.ref l) T) (lt:l < s.heap.objs.size)
  (it:∀ (A':Around) (s':Shared),A'.handled=none→(∀ b o,s.heap.get? b=some o→s'.heap.get? b=some o)→∃ (oI:Obj) (St:Nat→Heap→Prop),
   (∀ (A2:Around) (E2:Value→Shared→Prop) (Q2:Value→Shared→Prop),Q2 (.ref s'.heap.objs.size) { s' with heap:=s'.heap.push oI }→wpAny (model P w) A2 (pyIter (.ref l)) Q2 E2 s') ∧
    Walks P w A' s'.heap.objs.size [s'.heap.objs.size,l] [s'.heap.objs.size] n Pv St∧St 0 (s'.heap.push oI))
  (Good:Nat→Heap→Prop) (g0:∀ (led:Bool) (oI:Obj),Good 0 ((s.heap.push (set0 led)).push oI))
  (g1:∀ i h h',Good i h→(∀ b o,b≠s.heap.objs.size+1→h.get? b=some o→h'.get? b=some o)→Good i h')
  (g2:∀ (i:Nat) (s2:Shared) (v:Value) (Q:Bool→Shared→Prop) (E':Value→Shared→Prop),i < n→Pv i v→Good i s2.heap→(∀ h' tk,Heap.SameBut s.heap.objs.size s2.heap h'→Good (i+1) h'→Q true { s2 with heap:=h',toks:=tk }) →
   wpAny (model P w) A.in1.in1.in1 (setAdd s.heap.objs.size v) Q E' s2)
  (q:∀ h' tk,(∀ b o,s.heap.get? b=some o→h'.get? b=some o)→Good n h'→Q (.ref s.heap.objs.size) { s with heap:=h',toks:=tk }) :
  wpAny (model P w) A (call (.type "set") [.ref l]) Q E s:=by
 have cs:=F.called_set
 obtain ⟨c,tl,mro⟩:=cs.mro
 have made:=cs.made
 have sub:=cs.sub
 refine wpAny_call (codeAny_of_tree ?_)
 show wpAny _ _ (callAny (.type "set") _) _ _ _
 refine yaf ⟨Code.quiet_builtin _ (by decide +kernel),ybx F.entry_type_call ?_⟩
 rw [Around.under_plain (weight_type_call_type "set" [.ref l] []) rfl]
 have c1:=cs.notType
 have c2:=cs.canCreate
 have c3:=F.typeCall_set_1 (.ref l)
 repeat (any_goals (first | assumption | wp_step))
 refine ycE (code_set_new_1 (.ref l) (E:=E) (Q₁:=fun x s₁=>∃ led:Bool,x = .ref s.heap.objs.size∧s₁ = { s with heap:=s.heap.push (set0 led) }) fun led=>⟨led,rfl,rfl⟩) fun r s₁ hr => ?_
 cases r with
 | error e=>exact hr
 | ok fl =>
  cases fl with
  | ret x =>
   obtain ⟨led,rfl,rfl⟩:=hr
   have hS:(s.heap.push (set0 led)).get? s.heap.objs.size=some (set0 led):=yai _ rfl
   have tS:Shared.TypeIs { s with heap:=s.heap.push (set0 led) } (.ref s.heap.objs.size) "set":=⟨_,hS,rfl⟩
   have i1:=cs.init.lookup
   have i2:=cs.init.bind (.ref s.heap.objs.size)
   repeat (any_goals (first | assumption | wp_step))
   refine ycE (codeAny_call_builtin (R:=wants (fun r s₂=>r = .none∧∃ h' tk,s₂ = { s with heap:=h',toks:=tk }∧Good n h'∧(∀ b o,s.heap.get? b=some o→h'.get? b=some o)) E)
    cs.init.plain F.entry_set_init (check_set_init_1 tS ?_)) fun r₂ s₂ hr₂ => ?_
   ·have ext:∀ b o,s.heap.get? b=some o→(s.heap.push (set0 led)).get? b=some o:=fun b o e=>yad _ e
    have tl:=ty { s with heap:=s.heap.push (set0 led) } ext
    have h3:A.in1.in1.in1.handled=none:=by simp [hh]
    obtain ⟨oI,St,go,W,st⟩:=it A.in1.in1.in1 { s with heap:=s.heap.push (set0 led) } h3 ext
    have sz:(s.heap.push (set0 led)).objs.size=s.heap.objs.size+1:=ybd ..
    unfold Builtin.«set.__init__» noKeywords Builtin.Frozenset.updateFrom
    generalize hPI:pyIter=PI
    wp_walk
    subst hPI
    refine go _ _ _ ?_
    refine yac (yem ?_)
    dsimp only at W st
    refine loop_set (A:=A.in1.in1) W (fun z => ?_) Good (fun i h h' g k=>g1 i h h' g fun b o hb e=>k b o (by rw [sz];exact hb) e) g2 (n - 0) 0 _ (by omega) (ya2 _) st (g0 led oI) fun h' tk kp good => ?_
    ·rcases yaN.mp z with z | z
     ·rw [sz] at z
      exact absurd z (yaF (ybh _))
     ·exact absurd (ya4.mp z) (ycc lt)
    ·refine yaf ?_
     refine yaf ⟨rfl,h',tk,rfl,good,fun b o e => ?_⟩
     have bl:=yak e
     refine kp b o (yaF bl) ?_ (yad _ (ext b o e))
     rw [sz]
     exact yaF (ycg bl)
   ·cases r₂ with
    | error e=>exact hr₂
    | ok fl₂ =>
     cases fl₂ with
     | ret r =>
      obtain ⟨rfl,h',tk,rfl,good,kp⟩:=hr₂
      repeat (any_goals (first | assumption | wp_step))
      exact q _ _ kp good
     | _=>exact hr₂.elim
  | _=>exact hr.elim
end
def SetSz (a:Addr) (n:Nat) (h:Heap):Prop:=∃ o es ep t,h.get? a=some o∧o.ExactSet∧o.data = .set es ep t∧t.fits es.size=true∧es.size=n
def setO (a:Addr) (n:Nat):HO := .ext (SetSz a n)
theorem setO_ok {P:Program} {w:World} {H:Hp} {h:Heap} {a:Addr} {n:Nat} (x:SetSz a n h):ObjOk P w H h a (setO a n):=by
 obtain ⟨o,es,ep,t,ho,r⟩:=id x
 exact ⟨x,⟨o,ho⟩,(by rintro h1 h2 ⟨o,es,ep,t,ho,r⟩ k;exact ⟨o,es,ep,t,k o ho,r⟩)⟩
theorem zfv:isSubtype (.type "tuple") (.type "set")=pure false:=by rw [yen];kernel_rfl
theorem zdg:isSubtype (.type "tuple") (.type "frozenset")=pure false:=by rw [yen];kernel_rfl
section
variable {X:Cx}
theorem zdD:CallR X (.builtin "len") (fun xs H Q=>∃ a n,xs = [.ref a]∧H a=some (setO a n)∧n≤1000∧Q (.int n) H):=by
 intro pins s σ H xs us Q I r h
 obtain ⟨a,n,rfl,ha,hn,q⟩:=h
 obtain ⟨u,rfl,rx⟩:=vals1 r
 obtain rfl:u=yaD a:=rx
 obtain ⟨⟨o,es,ep,t,ho,hex,hd,hf,rfl⟩,_⟩:=(show ObjOk X.prog X.w H s.heap a (setO a n) from I.hok a _ ha)
 exact call_len_set ho hex hd hf (by omega) ⟨.int es.size,H,I.tok _,⟨_,rfl⟩,q⟩
theorem call_setS (hc:X.calm=true):CallR X (.type "set") (fun xs H Q=>∃ (p:Addr) (ys:List Str),xs = [.ref p]∧SqL X.K H p (ys.map V.str)∧ys.Nodup∧ys.length≤1000∧∀ l,H l=none→Q (.ref l) (upd H l (setO l ys.length))):=by
 intro pins s σ H xs us Q I r h
 obtain ⟨p,ys,rfl,hq,nd,hy,q⟩:=h
 obtain ⟨u,rfl,rx⟩:=vals1 r
 obtain rfl:u=yaD p:=rx
 obtain ⟨its,rv,pl,hz⟩:=I.list hq
 have len:its.length=ys.length:=by rw [← rv.length,yaa]
 have il:=pl.isList
 have lt:p < s.heap.objs.size:=let ⟨o,ho,_⟩:=il;yak ho
 have keepL:∀ {h':Heap},(∀ b o,s.heap.get? b=some o→h'.get? b=some o)→h'.IsList p its.toArray:=fun {h'} k=>let ⟨o,ho,r⟩:=il;⟨o,k _ _ ho,r⟩
 let Good:Nat→Heap→Prop:=fun i h=>∃ Sf:Str→Bool,h.SetOf (yby X.prog X.w) s.heap.objs.size Sf i∧∀ k,Sf k=true→k∈ys.take i
 refine ze0 (T := "list") (l:=p) (n:=ys.length) (Pv:=fun i v=>its.toArray[i]? = some v) (I.ok.hd hc) yeE ydz (by decide) (fun s' k=>let ⟨o,ho,hcl,_⟩:=keepL k;⟨o,ho,hcl⟩) lt
  (fun A' s' hh k => ?_) Good (fun led oI => ?_) (fun i h h' g k => ?_) (fun i s2 v Q2 E2 hi hv g q2 => ?_) fun h' tk kp g => ?_
 ·have ne:p≠s'.heap.objs.size:=let ⟨o,ho,_⟩:=keepL k;yaF (yak ho)
  have W:=Walks.list (prog:=X.prog) (w:=X.w) hh s'.heap.objs.size p ne its.toArray
  rw [show its.toArray.size=ys.length by simp [len]] at W
  exact ⟨_,_,fun A2 E2 Q2 z=>ycI (keepL k) z,W,⟨⟨_,yai _ rfl,rfl,rfl⟩,(keepL k).push _⟩⟩
 ·refine ⟨fun _=>false,?_,fun k z=>nomatch z⟩
  exact (setObjOf_fresh (knd:=yby X.prog X.w) led).setOf (yad _ (yai _ rfl)) (by decide)
 ·obtain ⟨Sf,⟨o,es,ep,t,ho,r⟩,m⟩:=g
  exact ⟨Sf,⟨o,es,ep,t,k _ _ (yaF (ybh _)) ho,r⟩,m⟩
 ·obtain ⟨Sf,hS,m⟩:=g
  have hv':its[i]? = some v:=by simpa using hv
  have yi:(ys.map V.str)[i]? = some (V.str ys[i]):=by rw [yae,yab hi];rfl
  obtain ⟨v',e',rel⟩:=rv.get yi
  rw [hv'] at e'
  cases e'
  obtain ⟨t,rfl⟩:=rel
  have fresh:Sf ys[i]=false:=by
   cases z:Sf ys[i] with
   | false=>rfl
   | true =>
    obtain ⟨j,hj,ej⟩:=ydG.mp (m _ z)
    have ji:=(ydd (h₀:=by omega) (h₁:=hi) nd).mp ej
    omega
  unfold setAdd
  refine ya9 (yac (wpAny_pyHash_str ?_))
  refine wpAny_setAddHashed_of (knd:=yby X.prog X.w) (s:={ s2 with toks:=s2.toks+1 }) (strKind_is _ _ _ t) rfl hS (by unfold ybZ;omega) fun h' sb hS' => ?_
  rw [fresh] at hS' ⊢
  refine q2 h' _ sb ⟨_,hS',fun k z => ?_⟩
  rw [yaB hi]
  rcases Bool.or_eq_true_iff.mp z with z | z
  ·exact ydA _ (m k z)
  ·rw [of_decide_eq_true z]
   exact ybp _ (ya4.mpr rfl)
 ·obtain ⟨Sf,⟨o,es,ep,t,ho,hex,hd,_,_,_,hf,hn⟩,_⟩:=g
  exact ⟨.ref s.heap.objs.size,_,I.laid (t':=tk) kp (yag _) (setO_ok ⟨o,es,ep,t,ho,hex,hd,hf,hn⟩),rfl,q _ (I.hok.fresh (yag _))⟩
end
section
variable {X:Cx}
theorem call_setT (hc:X.calm=true) (hu:X.A.units+4 < cLine):CallR X (.type "set") (fun xs H Q=>∃ (p:Addr) (qs:List Addr) (ks:List (List Key)),xs = [.ref p]∧SqT X.K H p (qs.map V.ref)∧ks.length=qs.length∧qs.length≤4∧ks.Nodup ∧
  (∀ (i:Nat) (q:Addr) (k:List Key),qs[i]? = some q→ks[i]? = some k→H q=some (.tup (k.map kV)))∧∀ l,H l=none→Q (.ref l) (upd H l (setO l qs.length))):=by
 intro pins s σ H xs us Q I r h
 obtain ⟨p,qs,ks,rfl,hq,hlen,few,nd,tups,q⟩:=h
 obtain ⟨u,rfl,rx⟩:=vals1 r
 obtain rfl:u=yaD p:=rx
 obtain ⟨its,rv,pl,hz⟩:=I.tuple hq
 have len:its.length=qs.length:=by rw [← rv.length,yaa]
 have lt:p < s.heap.objs.size:=let ⟨o,ho,_⟩:=pl;yak ho
 have keepT:∀ {h':Heap},(∀ b o,s.heap.get? b=some o→h'.get? b=some o)→h'.IsTuple p its.toArray:=fun {h'} k=>let ⟨o,ho,r⟩:=pl;⟨o,k _ _ ho,r⟩
 let knd:=za5 X.prog X.w
 have keys:∀ (i:Nat) (hi:i < qs.length),IsTupleKey knd s.heap (ks[i]'(by omega)) qs[i]∧qs[i] < s.heap.objs.size:=fun i hi=>by
  have t:=tups i qs[i] (ks[i]'(by omega)) (yab hi) (yab (by omega))
  exact ⟨zhC I.hok t,I.hok.lt t⟩
 let Good:Nat→Heap→Prop:=fun i h=>(∃ es ep t,SH knd h s.heap.objs.size es ep t∧es.size=i∧∀ e∈es.toList,∃ (j:Nat) (hj:j < qs.length),j < i∧e=(yb0 knd (ks[j]'(by omega)),yaD qs[j])) ∧
  ∀ (i:Nat) (hi:i < qs.length),IsTupleKey knd h (ks[i]'(by omega)) qs[i]
 refine ze0 (T := "tuple") (l:=p) (n:=qs.length) (Pv:=fun i v=>its.toArray[i]? = some v) (I.ok.hd hc) zfv zdg (by decide) (fun s' k=>let ⟨o,ho,hcl,_⟩:=keepT k;⟨o,ho,hcl⟩) lt
  (fun A' s' hh k => ?_) Good (fun led oI => ?_) (fun i h h' g k => ?_) (fun i s2 v Q2 E2 hi hv g q2 => ?_) fun h' tk kp g => ?_
 ·have ne:p≠s'.heap.objs.size:=let ⟨o,ho,_⟩:=keepT k;yaF (yak ho)
  have W:=Walks.tuple (prog:=X.prog) (w:=X.w) hh s'.heap.objs.size p ne its.toArray
  rw [show its.toArray.size=qs.length by simp [len]] at W
  exact ⟨_,_,fun A2 E2 Q2 z=>yfc (keepT k) z,W,⟨⟨_,yai _ rfl,rfl,rfl⟩,(keepT k).push _⟩⟩
 ·have e0:((s.heap.push (set0 led)).push oI).get? s.heap.objs.size=some (set0 led):=yad _ (yai _ rfl)
  refine ⟨⟨#[],0,.fresh 0 0 led,⟨⟨_,e0,⟨rfl,rfl,rfl⟩,rfl⟩,⟨rfl,rfl,show (0:Nat)≤5 by decide⟩,rfl,fun e he=>by simp at he⟩,rfl,fun e he=>by simp at he⟩,fun i hi => ?_⟩
  obtain ⟨o,is,n,ho,r⟩:=(keys i hi).1
  exact ⟨o,is,n,yad _ (yad _ ho),r⟩
 ·obtain ⟨⟨es,ep,t,S,sz,form⟩,tk⟩:=g
  have tk':∀ (i:Nat) (hi:i < qs.length),IsTupleKey knd h' (ks[i]'(by omega)) qs[i]:=fun i hi=>by
   obtain ⟨o,is,n,ho,r⟩:=tk i hi
   exact ⟨o,is,n,k _ _ (yaF (ycg (keys i hi).2)) ho,r⟩
  obtain ⟨o,ho,r⟩:=S.ob
  refine ⟨⟨es,ep,t,⟨⟨o,k _ _ (yaF (ybh _)) ho,r⟩,S.tb,S.sz,fun e he => ?_⟩,sz,form⟩,tk'⟩
  obtain ⟨j,hj,_,ee⟩:=form e he
  exact ⟨_,_,ee,tk' j hj⟩
 ·obtain ⟨⟨es,ep,t,S,sz,form⟩,tk⟩:=g
  have hv':its[i]? = some v:=by simpa using hv
  have qi:(qs.map V.ref)[i]? = some (V.ref qs[i]):=by rw [yae,yab hi];rfl
  obtain ⟨v',e',rel⟩:=rv.get qi
  rw [hv'] at e'
  cases e'
  obtain rfl:v=yaD qs[i]:=rel
  refine add_tuple (k:=ks[i]'(by omega)) S (by omega) (tk i hi) (by show X.A.units+1+1+1 < cLine;omega) (fun k' y me hk' => ?_) fun h' tk' es' ep' t' sb S' sz' mem' _ => ?_
  ·obtain ⟨j,hj,ji,ee⟩:=form _ me
   injection ee with _ ey
   injection ey with ey
   subst ey
   have:=hk'.inj (tk j hj)
   rw [this]
   intro z
   have:=(ydd (h₀:=by omega) (h₁:=by omega) nd).mp z
   omega
  ·have tk2:∀ (i:Nat) (hi:i < qs.length),IsTupleKey knd h' (ks[i]'(by omega)) qs[i]:=fun i hi=>by
    obtain ⟨o,is,n,ho,r⟩:=tk i hi
    exact ⟨o,is,n,(sb.2 _ (yaF (keys i hi).2)).trans ho,r⟩
   refine q2 h' tk' sb ⟨⟨es',ep',t',S',by omega,fun e he => ?_⟩,tk2⟩
   rcases mem' e he with he | rfl
   ·obtain ⟨j,hj,ji,ee⟩:=form e he
    exact ⟨j,hj,by omega,ee⟩
   ·exact ⟨i,hi,by omega,rfl⟩
 ·obtain ⟨⟨es,ep,t,S,sz,_⟩,_⟩:=g
  obtain ⟨o,ho,hex,hd⟩:=S.ob
  exact ⟨.ref s.heap.objs.size,_,I.laid (t':=tk) kp (yag _) (setO_ok ⟨o,es,ep,t,ho,hex,hd,S.tb.fits S.sz,sz⟩),rfl,q _ (I.hok.fresh (yag _))⟩
end
theorem zge:typeLookup (.type "tuple") "keys" = pure none:=by rw [typeLookup_type,yex];kernel_rfl
section
variable {P:Program} {w:World} {A:Around} {E:Value→Shared→Prop} {s:Shared} {a:Addr} {o:Obj} {xs:Array Value} {n:Nat}
theorem no_keys {Q:Option Value→Shared→Prop} (hx:s.heap.get? a=some o) (hc:o.cls = .type "tuple") (hdat:o.data = .seq xs n) (hd:o.dict=none) (hA:A.handled=none)
  (q:∀ h' tk,(∀ b u,s.heap.get? b=some u→h'.get? b=some u)→Q none { s with heap:=h',toks:=tk }):wpAny (model P w) A (getAttr? (.ref a) "keys") Q E s:=by
 obtain ⟨c,dct,dat,sl⟩:=o
 dsimp only at hc hdat hd
 subst hc hdat hd
 obtain ⟨hp,g,d,tk,os⟩:=s
 have ty:∀ tk',(⟨hp,g,d,tk',os⟩:Shared).TypeIs (.ref a) "tuple":=fun _=>⟨_,hx,rfl⟩
 have z1:=sub_AttributeError
 have z3:=F.slot_tuple_getattribute.lookup
 have z4:=F.slot_tuple_getattribute.bind (.ref a)
 have z5:=am_tuple_getattr_none
 unfold getAttr? getAttrBy? getAttrBy
 repeat (any_goals (first | assumption | exact ty _ | ((with_reducible show wpAny _ _ (call (Value.builtin "tuple.__getattribute__") _ _) _ _ _);refine yeg ydH (ty _) am_entry_tuple_getattribute (F.args_tuple_getattribute_2 _ _) (meets_getattribute_miss_tuple a xs n sl "keys" _ zge (by decide) (zac (by decide +kernel))) ⟨hx,hA,fun h' tk2 e hx' => ?_⟩) | wp_step))
 obtain ⟨t1,u1,he⟩:=hx'.there
 show wpAny _ _ (getattributeRaised _ _ _ _ _ _ _) _ _ _
 unfold getattributeRaised
 repeat (any_goals (first | assumption | wp_step))
 exact q _ _ hx'.keeps
end
theorem zdu:entryFor table "dict.update.loop" = some Builtin.«dict.update.loop»:=entryFor_of_tree (by kernel_rfl)
theorem zb1:plainId "dict.update.loop" = true:=by decide +kernel
section
variable {P:Program} {w:World} {A:Around} {E:Value→Shared→Prop} {s:Shared} {κ:Type} [DecidableEq κ] {knd:PySem.KeyKind P w κ}
def ziU (knd:PySem.KeyKind P w κ) (h:Heap) (a:Addr) (kx:κ×Value):Prop:=∃ o key n,h.get? a=some o∧o.cls = .type "tuple"∧o.data = .seq #[key,kx.2] n∧knd.is kx.1 key=true
theorem loop_dict {R:Result→Shared→Prop} {I d:Addr} {fp:List Addr} {St:Nat→Heap→Prop} {qs:List Addr} {kvs:List (κ×Value)} (W:Walks P w A.in1 I fp [I] qs.length (fun i v=>(qs[i]?).map yaD=some v) St) (hd:d∉fp) (hdI:d≠I)
  (hlen:kvs.length=qs.length) (few:qs.length≤1000) (nd:(kvs.map (·.1)).Nodup) :
  ∀ (k i:Nat) (tk0:Tok) (s:Shared),qs.length - i=k→i≤qs.length→St i s.heap→s.heap.DictOf knd d (kvs.take i) →
   (∀ (j:Nat) (q:Addr) (kx:κ×Value),qs[j]? = some q→kvs[j]? = some kx→ziU knd s.heap q kx∧q≠I∧q≠d) →
   (∀ h' tk,(∀ b o,b≠d→b≠I→s.heap.get? b=some o→h'.get? b=some o)→h'.DictOf knd d kvs→R (.ok (.ret .none)) { s with heap:=h',toks:=tk }) →
   ydB (model P w) A (.builtin "dict.update.loop" ⟨[.ref d,.ref I,.int i tk0,.none],[]⟩) R s:=by
 intro k
 induction k with
 | zero =>
  intro i tk0 s hk hi st D prs q
  obtain rfl:i=qs.length:=by omega
  refine ybx zdu ?_;rw [ybi zb1 _]
  refine yac (W.done s _ _ st fun h' tk kp => ?_)
  have D':h'.DictOf knd d kvs:=by
   rw [← hlen,yba] at D
   obtain ⟨o,es,ep,ho,r⟩:=D
   exact ⟨o,es,ep,kp _ _ (by simpa using hdI) ho,r⟩
  dsimp only
  unfold Builtin.Dict.addKeywords
  rw [yfq]
  refine yac (yac (yaf (yaf ?_)))
  exact yaf (q h' tk (fun b o _ b2 e=>kp b o (by simpa using b2) e) D')
 | succ k ih =>
  intro i tk0 s hk hi st D prs q
  have lt:i < qs.length:=by omega
  refine ybx zdu ?_;rw [ybi zb1 _]
  refine yac (W.item i s _ _ lt st fun v h1 tk1 hv st1 kp => ?_)
  have hk0:i < kvs.length:=by omega
  rw [yab lt] at hv
  obtain rfl:yaD qs[i]=v:=by simpa using hv
  have keep1:∀ {a:Addr} {kx:κ×Value},a≠I→ziU knd s.heap a kx→ziU knd h1 a kx:=fun {a kx} ne ⟨o,key,n,ho,r⟩=>⟨o,key,n,kp _ _ (by simpa using ne) ho,r⟩
  obtain ⟨pr,n1,n2⟩:=prs i qs[i] kvs[i] (yab lt) (yab hk0)
  obtain ⟨o,key,n,ho,hc,hda,hkey⟩:=keep1 n1 pr
  have D1:h1.DictOf knd d (kvs.take i):=let ⟨o,es,ep,ho,r⟩:=D;⟨o,es,ep,kp _ _ (by simpa using hdI) ho,r⟩
  have fresh:stored (kvs.take i) kvs[i].1 kvs[i].2=kvs.take (i+1):=by
   unfold stored
   rw [if_neg ?_,yaB hk0]
   intro z
   obtain ⟨x,hx,ex⟩:=yde.mp z
   obtain ⟨j,hj,ej⟩:=ydG.mp hx
   have e1:(kvs.map (·.1))[j]'(by simp;omega)=(kvs.map (·.1))[i]'(by simp;omega):=by
    rw [ydf,ydf,ej]
    exact of_decide_eq_true ex
   have:=(ydd (h₀:=by simp;omega) (h₁:=by simp;omega) nd).mp e1
   omega
  refine yac (ya9 (yac (wpAny_tryCatch ?_)))
  unfold Builtin.Dict.pairItems
  refine yac (ycR (T := "tuple") (s:={ s with heap:=h1,toks:=tk1 }) ⟨o,ho,hc⟩ ?_)
  rw [if_pos (by decide)]
  refine yac (yct (s:={ s with heap:=h1,toks:=tk1 }) ho hda (yaf ?_))
  show wpAny _ _ (holding [key,kvs[i].2] (dictSet d key kvs[i].2)) _ _ _
  refine ya9 (wpAny_dictSet_pairs (s:={ s with heap:=h1,toks:=tk1 }) hkey D1 (fun h2 D2 sb => ?_) (zac (by rw [yaj];omega)))
  rw [fresh] at D2
  refine yaf ⟨yck zb1 _,ih (i+1) _ _ (by omega) lt (W.frame _ h1 h2 st1 fun b hb u e=>(sb.2 b fun z=>hd (z ▸ hb)).trans e) D2 (fun j q0 kx e1 e2 => ?_) fun h3 tk3 kp3 D3 => ?_⟩
  ·obtain ⟨p1,m1,m2⟩:=prs j q0 kx e1 e2
   obtain ⟨o',key',n',ho',r'⟩:=keep1 m1 p1
   exact ⟨⟨o',key',n',(sb.2 _ m2).trans ho',r'⟩,m1,m2⟩
  ·refine q h3 tk3 (fun b u b1 b2 e=>kp3 b u b1 b2 ?_) D3
   exact (sb.2 b b1).trans (kp b u (by simpa using b2) e)
end
section
variable {X:Cx}
theorem zfn:CallR X (.type "tuple") (fun xs H Q=>∃ (p:Addr) (ys:List V),xs = [.ref p]∧SqL X.K H p ys∧∀ (l:Addr) (o:Obj),H l=none→o.cls = .type "tuple"→o.dict=none→Q (.ref l) (upd H l (.frz o (.tup ys)))):=by
 intro pins s σ H xs us Q I r h
 obtain ⟨p,ys,rfl,hq,q⟩:=h
 obtain ⟨u,rfl,rx⟩:=vals1 r
 obtain rfl:u=yaD p:=rx
 obtain ⟨its,r',pl,hz⟩:=I.list hq
 have hlen:=r'.length
 refine call_tuple_list pl.isList (fun h' kp => ?_) (by simp only [yaH] <;> omega)
 have I1:Inv X pins σ H { s with heap:=h' }:=I.kept (t':=s.toks) kp
 let o:Obj:={ cls := .type "tuple",data := .seq its.toArray }
 have ge:(h'.push o).get? h'.objs.size=some o:=yai _ rfl
 have I2:Inv X pins σ (upd H h'.objs.size (.frz o (.tup ys))) { s with heap:=h'.push o } :=
  I1.laid (t':=s.toks) (fun b u e=>yad _ e) (yag _) (show ObjOk X.prog X.w _ _ _ (.frz o (.tup ys)) from ⟨ge,hz,its,r',⟨o,ge,rfl,_,rfl⟩⟩)
 exact ⟨.ref h'.objs.size,_,I2,rfl,q _ _ (I1.hok.fresh (yag _)) rfl rfl⟩
theorem zi7 {P:Program} {w:World} {H:Hp} {h:Heap} (ok:HOk P w H h):∀ {qs:List Addr} {kvs:List (Key×V)},kvs.length=qs.length →
  (∀ (i:Nat) (q:Addr) (kx:Key×V),qs[i]? = some q→kvs[i]? = some kx→H q=some (.tup [kV kx.1,kx.2])) →
  ∃ vs:List (Key×Value),KV kvs vs∧∀ (i:Nat) (q:Addr) (kx:Key×Value),qs[i]? = some q→vs[i]? = some kx→ziU (za5 P w) h q kx
 | [],[],_,_=>⟨[],.nil,fun i q kx e=>by simp at e⟩
 | [],_ :: _,hl,_=>nomatch hl
 | _ :: _,[],hl,_=>nomatch hl
 | q0 :: qs,(k0,v0) :: kvs,hl,t=>by
  obtain ⟨vs,r,a⟩:=zi7 ok (ycH hl) fun i q kx e1 e2=>t (i+1) q kx e1 e2
  obtain ⟨_,its,rv,o,ho,hc,n,hd⟩:=(show ObjOk P w H h q0 (.tup [kV k0,v0]) from ok _ _ (t 0 q0 (k0,v0) rfl rfl))
  obtain ⟨key,val,rfl,rk,rx⟩:=vals2 rv
  refine ⟨(k0,val) :: vs,.cons ⟨rfl,rx⟩ r,fun i q kx e1 e2 => ?_⟩
  cases i with
  | zero =>
   cases e1
   cases e2
   exact ⟨o,key,n,ho,hc,hd,kV_is rk⟩
  | succ i=>exact a i q kx e1 e2
theorem zjq (hc:X.calm=true):CallR X (.type "dict") (fun xs H Q=>∃ (p:Addr) (o:Obj) (qs:List Addr) (kvs:List (Key×V)),xs = [.ref p]∧H p=some (.frz o (.tup (qs.map V.ref)))∧o.cls = .type "tuple"∧o.dict=none∧kvs.length=qs.length∧qs.length≤1000 ∧
  (kvs.map (·.1)).Nodup∧(∀ (i:Nat) (q:Addr) (kx:Key×V),qs[i]? = some q→kvs[i]? = some kx→H q=some (.tup [kV kx.1,kx.2]))∧∀ l,H l=none→Q (.ref l) (upd H l (.dK kvs))):=by
 intro pins s σ H xs us Q I r h
 obtain ⟨p,o,qs,kvs,rfl,hp,hcl,hdn,hlen,few,nd,prs,q⟩:=h
 obtain ⟨u,rfl,rx⟩:=vals1 r
 obtain rfl:u=yaD p:=rx
 obtain ⟨ho,hz,its,rv,⟨o',ho',_,n,hda⟩⟩:=(show ObjOk X.prog X.w H s.heap p (.frz o (.tup (qs.map V.ref))) from I.hok _ _ hp)
 obtain rfl:o=o':=yas (ho.symm.trans ho')
 obtain ⟨vs,kv,pa⟩:=zi7 I.hok hlen prs
 have vlen:vs.length=qs.length:=by rw [← hlen];exact (yaz kv).symm
 have keys:vs.map (·.1)=kvs.map (·.1):=by
  clear pa nd prs q hlen vlen few
  induction kv with
  | nil=>rfl
  | cons a _ ih=>rw [yan,yan,ih,a.1]
 have hh:=I.ok.hd hc
 let d:=s.heap.objs.size
 let o0:Obj:={ cls := .type "dict",data := .dict #[] }
 refine callType_codes (Q₁:=fun x s₁=>x = .ref d∧s₁ = { s with heap:=s.heap.push o0 }) PySem.F.kt_called_dict (PySem.F.kt_typeCall_dict_1 _) PySem.F.entry_dict_init (kt_code_dict_new _ ⟨rfl,rfl⟩) ?_
 rintro x s₁ ⟨rfl,rfl⟩
 have D0:(s.heap.push o0).DictOf (za5 X.prog X.w) d []:=Heap.DictOf.new s.heap
 refine ⟨D0.typeIs,PySem.F.args_dict_init_2 _ _,?_⟩
 unfold Builtin.«dict.__init__»
 refine yac ?_
 unfold Builtin.Dict.selfAndRest
 refine yac (wpAny_notOrdered_dict D0.typeIs ?_)
 show wpAny _ _ (pure (d,[yaD p])) _ _ _
 refine yaf ?_
 show wpAny _ _ (Builtin.Dict.updateFrom "dict.__init__" d (.ref p) [] .none) _ _ _
 unfold Builtin.Dict.updateFrom
 have hp1:(s.heap.push o0).get? p=some o:=yad _ ho
 refine yac (ycR (T := "tuple") ⟨o,hp1,hcl⟩ ?_)
 rw [if_pos (by decide)]
 refine yac (no_keys hp1 hcl hda hdn (by simpa using hh) fun h2 tk2 kp2 => ?_)
 rw [if_pos (show (none:Option Value).isNone=true from rfl)]
 refine yac (ycr ?_)
 have hp2:h2.IsTuple p its.toArray:=⟨o,kp2 _ _ hp1,hcl,n,hda⟩
 refine yac (yfc hp2 ?_)
 have dlt:d < h2.objs.size:=let ⟨o,es,ep,ho,_⟩:=D0;yak (kp2 _ _ ho)
 have plt:p < s.heap.objs.size:=yak ho
 have ne:p≠h2.objs.size:=yaF (yak (kp2 _ _ hp1))
 have W:=Walks.tuple (prog:=X.prog) (w:=X.w) (A:=X.A.in1.in1) (by simpa using hh) h2.objs.size p ne its.toArray
 have il:its.length=qs.length:=by rw [← rv.length,yaa]
 have itq:∀ (i:Nat) (v:Value),its.toArray[i]? = some v→(qs[i]?).map yaD=some v:=fun i v e=>by
  have e':its[i]? = some v:=by simpa using e
  have hi:i < qs.length:=by rw [← il];exact (ybj.mp e').1
  obtain ⟨v',e2,rel⟩:=rv.get (x:=V.ref qs[i]) (i:=i) (by rw [yae,yab hi];rfl)
  rw [e'] at e2
  cases e2
  obtain rfl:v=yaD qs[i]:=rel
  rw [yab hi]
  rfl
 have W2:Walks X.prog X.w X.A.in1.in1 h2.objs.size [h2.objs.size,p] [h2.objs.size] qs.length (fun i v=>(qs[i]?).map yaD=some v) (fun i h=>h.IsTupleIter h2.objs.size p i∧h.IsTuple p its.toArray):=by
  rw [show its.toArray.size=qs.length by simp [il]] at W
  exact ⟨W.sub,W.frame,fun i s Q E hi st k=>W.item i s Q E hi st fun v h' tk e st' kp=>k v h' tk (itq i v e) st' kp,W.done,W.self⟩
 refine yaf ⟨yck zb1 _,loop_dict (knd:=za5 X.prog X.w) (kvs:=vs) W2 (fun z => ?_) (yaF dlt) vlen few (by rw [keys];exact nd) (qs.length - 0) 0 _ _ (by omega) (ya2 _)
  ⟨⟨_,yai _ rfl,rfl,rfl⟩,hp2.push _⟩ ?_ (fun j q0 kx e1 e2 => ?_) fun h3 tk3 kp3 D3 => ?_⟩
 ·rcases yaN.mp z with z | z
  ·exact yaF dlt z
  ·exact ycc plt (ya4.mp z)
 ·obtain ⟨o1,es,ep,ho1,r1⟩:=D0
  exact ⟨o1,es,ep,yad _ (kp2 _ _ ho1),r1⟩
 ·obtain ⟨o1,key,n1,ho1,r1⟩:=pa j q0 kx e1 e2
  have l1:=yak ho1
  have g1:=kp2 _ _ (yad o0 ho1)
  exact ⟨⟨o1,key,n1,yad _ g1,r1⟩,yaF (yak g1),yaF l1⟩
 ·refine ⟨rfl,.ref d,_,I.laid (h':=h3) (t':=tk3) (fun b u e => ?_) (yag _) (show ObjOk X.prog X.w _ h3 d (.dK kvs) from ⟨?_,?_,vs,kv,D3⟩),rfl,q _ (I.hok.fresh (yag _))⟩
  ·have g1:=kp2 _ _ (yad o0 e)
   exact kp3 b u (yaF (yak e)) (yaF (yak g1)) (yad _ g1)
  ·rw [hlen]
   exact zac (by omega)
  ·exact beq_eq_false_iff_ne.mpr (ycc I.big)
end
section
variable {X:Cx} {pins:List (Addr×Obj)} {σ:St} {H:Hp} {s:Shared} {h':Heap}
theorem Inv.turned2 {t':Nat} {i1 i2:Addr} (I:Inv X pins σ H s) (k:∀ b o,b≠i1→b≠i2→s.heap.get? b=some o→h'.get? b=some o) (F1:FpOk X pins H i1) (F2:FpOk X pins H i2):Inv X pins σ H { s with heap:=h',toks:=t' }:=by
 have n1:∀ b u,H b=some u→b≠i1:=fun b u e z=>by rw [z,F1.1] at e;cases e
 have n2:∀ b u,H b=some u→b≠i2:=fun b u e z=>by rw [z,F2.1] at e;cases e
 have k':∀ b o,b ∉ [i1,i2]→s.heap.get? b=some o→h'.get? b=some o:=fun b o hc e=>k b o (fun z=>hc (by simp [z])) (fun z=>hc (by simp [z])) e
 refine I.step (g':=s.gens) (d':=s.drawn) (ch := [i1,i2]) (fun b hb => ?_) (fun b o _ _ hc e _=>k' b o hc e) (fun b o _ _ hc e _=>⟨o.slots,k' b o hc e⟩) (fun _ _ _ _ n=>n)
  (fun b o hc e=>⟨o,k' b o hc e⟩) (fun _ _ e=>e) (fun _ _ _ e=>e) (fun b ps e=>⟨#[],by rw [e];simp⟩) (fun m hm => ?_) (fun b u e => ?_) I.bare
 ·have e:b=i1∨b=i2:=by simpa using hb
  rcases e with e | e
  ·subst e
   exact ⟨F1.2.2.2.1,F1.2.1,F1.2.2.2.2.1,F1.2.2.2.2.2⟩
  ·subst e
   exact ⟨F2.2.2.2.1,F2.2.1,F2.2.2.2.2.1,F2.2.2.2.2.2⟩
 ·obtain ⟨o,es,ep,ho,r⟩:=hm
  exact ⟨o,es,ep,k _ o (yco F1.2.1) (yco F2.2.1) ho,r⟩
 ·refine (I.hok b u e).stay (fun c v hc q => ?_) (fun _ q=>q) fun _ _ q=>q
  rcases hc with z | z
  ·subst z
   exact k c v (n1 c u e) (n2 c u e) q
  ·exact k c v (n1 c _ z) (n2 c _ z) q
end
def Ite (K:PySem.W.Frag) (l:Addr):It :=
 ⟨fun i H=>∃ xs x,SqL K H l xs∧xs[i]? = some x,fun i H x H'=>∃ t y,H t=none∧x = .ref t∧H'=upd H t (.tup [.int i,y])∧∀ xs,SqL K H l xs→xs[i]? = some y,fun i H=>∃ xs,SqL K H l xs∧xs.length≤i⟩
theorem turn_enum {P:Program} {w:World} {K:PySem.W.Frag} {elts:List Expr} {x1:Nat} {pos:Pos} (l e it:Addr) (hne:e≠it):Turn P w K (.Tuple elts x1 pos) (Ite K l) [e,it] e (fun i h=>(∃ old,IsEnum h e it i old)∧h.IsListIter it l i) where
 mem:=by simp
 obj:=fun i h st b hb=>by
  have e':b=e∨b=it:=by simpa using hb
  rcases e' with rfl | rfl
  ·obtain ⟨⟨old,st⟩,_⟩:=st
   exact ⟨_,st,fun v z=>by cases z⟩
  ·obtain ⟨_,o,e,c,d⟩:=st
   exact ⟨o,e,fun v z=>by rw [d] at z;cases z⟩
 keep:=(by rintro i h h' ⟨⟨old,st⟩,st2⟩ k;exact ⟨⟨old,k e (by simp) _ st⟩,st2.at fun o z=>k it (by simp) o z⟩)
 item:=by
  intro X hP hw hK hc i pins s σ H E I hf st hg
  subst hP hw hK
  obtain ⟨xs,x,hq,hx⟩:=hg
  obtain ⟨its,rv,p,hz⟩:=I.list hq
  obtain ⟨u,hu,ru⟩:=rv.get hx
  obtain ⟨⟨old,st1⟩,st2⟩:=st
  have F1:=hf e (by simp)
  have F2:=hf it (by simp)
  refine wpAny_pyNext_enum_item st1 st2 p.isList (x:=u) (by simpa using hu) hne fun h1 out st3 ht sz kp=>⟨_,rfl,?_⟩
  refine wpAny_letOwnedTupleGo_enum (s:={ s with heap:=h1,toks:=s.toks+1 }) out fun h2 st4 sb => ?_
  have elt:e < s.heap.objs.size:=yak st1
  have ilt:it < s.heap.objs.size:=let ⟨o,ho,_⟩:=st2;yak ho
  let T:Obj:={ cls := .type "tuple",data := .seq #[.int i s.toks,u] }
  have I1:Inv X pins σ (upd H s.heap.objs.size (.tup [.int i,x])) { s with heap:=s.heap.push T,toks:=s.toks } :=
   I.laid (fun b o z=>yad _ z) (yag _) (show ObjOk X.prog X.w _ _ _ (.tup [.int i,x]) from ⟨zac (show 2≤100000 by decide),[.int i s.toks,u],.cons ⟨_,rfl⟩ (.cons ru .nil),IsTup.new _ _⟩)
  have fp:∀ b,b < s.heap.objs.size→FpOk X pins H b→FpOk X pins (upd H s.heap.objs.size (.tup [.int i,x])) b:=fun b hb F=>⟨by rw [zar (yaF hb)];exact F.1,F.2⟩
  have I2:Inv X pins σ (upd H s.heap.objs.size (.tup [.int i,x])) { s with heap:=h2,toks:=s.toks+1 } :=
   Inv.turned2 (s:={ s with heap:=s.heap.push T,toks:=s.toks }) (t':=s.toks+1) (i1:=e) (i2:=it) I1 (fun b o b1 b2 z=>by
    rcases Heap.get?_push_cases z with ⟨rfl,rfl⟩ | z'
    ·exact (sb.2 _ b1).trans ht
    ·exact (sb.2 _ b1).trans (kp b o b1 b2 z')) (fp e elt F1) (fp it ilt F2)
  refine ⟨.ref s.heap.objs.size,_,I2,rfl,⟨_,x,I.hok.fresh (yag _),rfl,rfl,fun ys hy=>by rw [I.list_inj hy hq];exact hx⟩,⟨⟨_,by simpa using st4⟩,?_⟩,fun b hb => ?_⟩
  ·obtain ⟨o,ho,r⟩:=st3
   exact ⟨o,(sb.2 _ (yco hne)).trans ho,r⟩
  ·have e':b=e∨b=it:=by simpa using hb
   rcases e' with rfl | rfl
   ·exact (fp _ elt F1).1
   ·exact (fp _ ilt F2).1
 done:=by
  intro X hP hw hK hc i pins s σ H E I hf st hg
  subst hP hw hK
  obtain ⟨xs,hq,hx⟩:=hg
  obtain ⟨its,rv,p,hz⟩:=I.list hq
  obtain ⟨⟨old,st1⟩,st2⟩:=st
  obtain ⟨f0,f1,f2,f3,f4,f5⟩:=hf it (by simp)
  have hl:=rv.length
  exact wpAny_pyNext_enum_end (I.ok.hd hc) st1 st2 p.isList (by simp;omega) fun h' eb=>⟨rfl,I.turned (t':=s.toks) (fun b o hb e=>eb b o hb e) f0 f1 f3 f4 f5⟩
 self:=fun _ _ _ _ _ st h=>let ⟨⟨_,z⟩,_⟩:=st;wpAny_pyIter_enum z h
theorem zhA:ybw "enumerate" = some (.type "enumerate"):=by decide +kernel
def iEnum (K:PySem.W.Frag) (ta:TA):TI:=fun σ H R=>ta σ H fun vs H1=>∃ l,vs = [.ref l]∧(∃ xs,SqL K H1 l xs)∧R (Ite K l) H1
theorem ziq {X:Cx} {K:PySem.W.Frag} {elts:List Expr} {x1:Nat} {tpos:Pos} {a:Expr} {ta:TA} {p pos:Pos} (hK:X.K=K) (hg:Gl X "enumerate") (hm:X.mg "enumerate" = none) (ha:PA X [a] ta) (hs:ya6 [a] X.env = [(false,eval a X.env)]:=by rfl) :
  PI X (.Tuple elts x1 tpos) (.Call (.Name "enumerate" p) [a] [] pos) (iEnum K ta):=by
 subst hK
 intro pins s σ H R I h
 refine Call_ (zfK I hg hm zhA (ycK (thn (ha pos pins s σ H _ I h) fun us s1 ho_ => ?_) hs rfl))
 obtain ⟨vs,H1,I1,r1,q1⟩:=ho_
 obtain ⟨l,e,⟨xs,hq⟩,q⟩:=q1
 subst e
 cases r1 with
 | cons r rr =>
  cases rr
  obtain rfl:_=yaD l:=r
  obtain ⟨its,rv,pl,hz⟩:=I1.list hq
  refine call_enumerate_list pl.isList fun h' st1 st2 sz kp => ?_
  refine wpAny_pyIter_enum (s:={ s1 with heap:=h' }) st1 ?_
  have fr:∀ b,s1.heap.objs.size≤b→FpOk X pins H1 b:=fun b hb=>I1.fpOk hb (I1.hok.fresh hb)
  refine ⟨s1.heap.objs.size+1,[s1.heap.objs.size+1,s1.heap.objs.size],_,_,H1,rfl,I1.kept (t':=s1.toks) kp,turn_enum l _ _ (ycc (ybh _)),⟨⟨_,st1⟩,st2⟩,fun b hb => ?_,q⟩
  have e:b=s1.heap.objs.size+1∨b=s1.heap.objs.size:=by simpa using hb
  rcases e with e | e
  ·exact fr b (by rw [e];exact ycA _)
  ·exact fr b (by rw [e];exact yag _)
theorem zjj {K:PySem.W.Frag} {a:Addr} {xs:List V} {g:TG} {tb:TS} {D:Ends} {σ:St} {H:Hp} (Pv:Nat→St→Hp→Prop) (h0:Pv 0 σ H) (hl:∀ i σ H,i≤xs.length→Pv i σ H→SqL K H a xs)
  (hs:∀ i x t σ H,xs[i]? = some x→Pv i σ H→H t=none→g (.ref t) σ (upd H t (.tup [.int i,x])) fun σ2 H2=>tb { D with nx:=Pv (i+1),ct:=Pv (i+1),bk:=D.nx } σ2 H2) (hd:∀ σ H,Pv xs.length σ H→D.nx σ H) :
  ∃ W:Nat→Nat→St→Hp→Prop,(∃ m,W 0 m σ H)∧∀ i m σ H,W i m σ H →
   ((Ite K a).stop i H∧D.nx σ H)∨((Ite K a).go i H∧∃ N:St→Hp→Prop,(∀ σ' H',N σ' H'→∃ m',m' < m∧W (i+1) m' σ' H')∧∀ x H',(Ite K a).yld i H x H'→g x σ H' fun σ2 H2=>tb { D with nx:=N,ct:=N,bk:=D.nx } σ2 H2):=by
 refine ⟨fun i m σ H=>m=xs.length - i∧i≤xs.length∧Pv i σ H,⟨xs.length,by simp,ya2 _,h0⟩,?_⟩
 rintro i m σ H ⟨rfl,hi,p⟩
 have q:=hl i σ H hi p
 by_cases lt:i < xs.length
 ·refine .inr ⟨⟨xs,xs[i],q,by simp [lt]⟩,Pv (i+1),fun σ' H' p'=>⟨xs.length - (i+1),by omega,rfl,lt,p'⟩,?_⟩
  rintro x H' ⟨t,y,ht,rfl,rfl,hy⟩
  exact hs i y t σ H (hy xs q) p ht
 ·obtain rfl:i=xs.length:=by omega
  exact .inl ⟨⟨xs,q,yag _⟩,hd σ H p⟩
theorem zi5:∀ {Ts:List String} {us:List Value},Vals (Ts.map V.ty) us→us=Ts.map ybQ
 | [],_,.nil=>rfl
 | _ :: _,_,.cons r q=>by rw [zi5 q];cases r;rfl
theorem zjL {X:Cx} {K:PySem.W.Frag} (hK:X.K=K):CallR X (.builtin "isinstance") (fun xs H Q=>∃ (x:V) (tp:Addr) (t:Value) (b:Bool) (Ts:List String),xs = [x,.ref tp]∧H tp=some (.tup (Ts.map V.ty))∧TyOf K H x t∧PySem.W.kitAny K t (Ts.map ybQ)=some b∧Q (.bl b) H):=by
 subst hK
 intro pins s σ H xs us Q I r h
 obtain ⟨x,tp,t,b,Ts,rfl,et,ty,hk,q⟩:=h
 obtain ⟨v,w',rfl,rx,rw'⟩:=vals2 r
 cases rw'
 obtain ⟨_,its,rv,ob,e1,e2,n,e3⟩:=I.hok tp _ et
 have ei:=zi5 rv
 subst ei
 obtain ⟨oc,od,oda,osl⟩:=ob
 cases e2
 cases e3
 have fin:∀ tk,EP X pins σ Q (.bool b) { s with toks:=tk }:=fun tk=>⟨.bl b,H,I.tok tk,rfl,q⟩
 cases ty with
 | non=>cases (show v=ycy from rx);exact yb7 PySem.W.kitx_none I.kIn ycp e1 hk (fun z=>nomatch z) fin
 | bl y=>cases (show v=yds y from rx);exact yb7 PySem.W.kitx_bool I.kIn ycp e1 hk (fun z=>nomatch z) fin
 | int i=>obtain ⟨t,z⟩:=(show ∃ t,v=ycY i t from rx);cases z;exact yb7 PySem.W.kitx_int I.kIn ycp e1 hk (fun z=>nomatch z) fin
 | str y=>obtain ⟨t,z⟩:=(show ∃ t,v=ydV y t from rx);cases z;exact yb7 PySem.W.kitx_str I.kIn ycp e1 hk (fun z=>nomatch z) fin
 | flt y=>obtain ⟨t,z⟩:=(show ∃ t,v=Value.float y t from rx);cases z;exact yb7 PySem.W.kitx_float I.kIn ycp e1 hk (fun z=>nomatch z) fin
 | @lst a xs ea =>
  cases (show v=yaD a from rx)
  obtain ⟨_,_,n,_,h1⟩:=(show ObjOk X.prog X.w H s.heap a (.lst xs) from I.hok a _ ea)
  exact yb7 yed I.kIn ⟨_,h1,rfl⟩ e1 hk (fun z=>nomatch z) fin
 | @frz a ob xs ea =>
  cases (show v=yaD a from rx)
  obtain ⟨_,_,_,n,_,h1⟩:=(show ObjOk X.prog X.w H s.heap a (.frz ob (.lst xs)) from I.hok a _ ea)
  exact yb7 yed I.kIn ⟨_,h1,rfl⟩ e1 hk (fun z=>nomatch z) fin
 | @tup a xs ea =>
  cases (show v=yaD a from rx)
  obtain ⟨_,_,_,p⟩:=(show ObjOk X.prog X.w H s.heap a (.tup xs) from I.hok a _ ea)
  obtain ⟨o,h1,h2,_⟩:=p
  exact yb7 PySem.W.kitx_tuple I.kIn ⟨o,h1,h2⟩ e1 hk (fun z=>nomatch z) fin
 | @dK a kvs ea =>
  cases (show v=yaD a from rx)
  obtain ⟨_,_,vs,_,p⟩:=(show ObjOk X.prog X.w H s.heap a (.dK kvs) from I.hok a _ ea)
  obtain ⟨o,es,ep,h1,h2,_⟩:=p
  exact yb7 yee I.kIn ⟨o,h1,h2.1⟩ e1 hk (fun z=>nomatch z) fin
 | @dT a kvs ea =>
  cases (show v=yaD a from rx)
  obtain ⟨_,_,xs,_,o,es,ep,h1,h2,_⟩:=(show ObjOk X.prog X.w H s.heap a (.dT kvs) from I.hok a _ ea)
  exact yb7 yee I.kIn ⟨o,h1,h2.1⟩ e1 hk (fun z=>nomatch z) fin
 | @ins a C dx fs ea cl ha hn htk hm =>
  cases (show v=yaD a from rx)
  obtain ⟨mA,O,_⟩:=zeT I.hok ea
  obtain ⟨od,J,_⟩:=O.look
  exact yb7 (PySem.W.kitx_own (cl.get _) cl.hd ha hn htk hm) I.kIn J e1 hk (fun z=>nomatch z) fin
inductive Dp where
 | fl (v:V) | tp (ts:List Dp) | ls (ts:List Dp)
def Tl (K:PySem.W.Frag) (H:Hp):Nat→Dp→V→Prop
 | 0,_,_=>False
 | _+1,.fl v,x=>x=v∧flatV v=true∧eqV v v=true
 | n+1,.tp ts,x=>∃ a xs,x = .ref a∧SqT K H a xs∧Paired (Tl K H n) ts xs
 | n+1,.ls ts,x=>∃ a xs,x = .ref a∧SqL K H a xs∧Paired (Tl K H n) ts xs
theorem Paired.at {α β:Type} {R:α→β→Prop}:∀ {as:List α} {bs:List β},Paired R as bs→∀ (i:Nat) (h1:i < as.length) (h2:i < bs.length),R as[i] bs[i]
 | _,_,.cons r _,0,_,_=>r
 | _,_,.cons _ t,i+1,h1,h2=>Paired.at t i (ycN h1) (ycN h2)
theorem zdc (n:Nat):(ycz n).all (fun _=>true)=true:=by simp
section
variable {X:Cx} {pins:List (Addr×Obj)} {σ:St} {H:Hp} {s:Shared}
theorem zda {n:Nat} {A:Around} (I:Inv X pins σ H s) (ih:∀ (d:Dp) (x y:V) (u v:Value),Tl X.K H n d x→Tl X.K H n d y→RelV x u→RelV y v→SeqAt.EqAt A s u v true) {ts:List Dp} {xs ys:List V} {us vs:List Value}
  (p:Paired (Tl X.K H n) ts xs) (q:Paired (Tl X.K H n) ts ys) (rx:Vals xs us) (ry:Vals ys vs):us.length=vs.length∧∀ j (h1:j < us.toArray.size) (h2:j < vs.toArray.size),SeqAt.EqAt A s us.toArray[j] vs.toArray[j] true:=by
 have l1:=yaz p
 have l2:=yaz q
 have l3:=rx.length
 have l4:=ry.length
 refine ⟨by omega,fun j h1 h2 => ?_⟩
 have j1:j < us.length:=by simpa using h1
 have j2:j < vs.length:=by simpa using h2
 have e:=ih ts[j] xs[j] ys[j] us[j] vs[j] (Paired.at p j (by omega) (by omega)) (Paired.at q j (by omega) (by omega)) (Paired.at rx j (by omega) j1) (Paired.at ry j (by omega) j2)
 simpa using e
theorem zc7 (I:Inv X pins σ H s):∀ (n:Nat) (A:Around),A.units+n < cLine→∀ (d:Dp) (x y:V) (u v:Value),Tl X.K H n d x→Tl X.K H n d y→RelV x u→RelV y v→SeqAt.EqAt A s u v true
 | 0,_,_,_,_,_,_,_,h,_,_,_=>h.elim
 | n+1,A,hu,.fl w,x,y,u,v,⟨e1,f1,g⟩,⟨e2,_,_⟩,rx,ry=>by
  subst e1
  subst e2
  have:=zew (A:=A) (s:=s) rx ry f1 f1
  rw [g] at this
  exact this
 | n+1,A,hu,.tp ts,x,y,u,v,⟨a,xs,e1,s1,p1⟩,⟨b,ys,e2,s2,p2⟩,rx,ry=>by
  subst e1
  subst e2
  obtain rfl:u=yaD a:=rx
  obtain rfl:v=yaD b:=ry
  by_cases hab:a=b
  ·subst hab
   exact ydY _
  ·obtain ⟨us,r1,q1,_⟩:=I.tuple s1
   obtain ⟨vs,r2,q2,_⟩:=I.tuple s2
   obtain ⟨l,it⟩:=zda (A:=A.in1) I (zc7 I n A.in1 (by show A.units+1+n < cLine;omega)) p1 p2 r1 r2
   have:=SeqAt.RcAt.tuples (A:=A) (e:=fun _=>true) (show s.heap.IsTuple a us.toArray from q1) (show s.heap.IsTuple b vs.toArray from q2) (by omega) it
   rw [zdc,ydv,show (us.toArray.size == vs.toArray.size)=true by simp [l]] at this
   exact yfh hab this
 | n+1,A,hu,.ls ts,x,y,u,v,⟨a,xs,e1,s1,p1⟩,⟨b,ys,e2,s2,p2⟩,rx,ry=>by
  subst e1
  subst e2
  obtain rfl:u=yaD a:=rx
  obtain rfl:v=yaD b:=ry
  by_cases hab:a=b
  ·subst hab
   exact ydY _
  ·obtain ⟨us,r1,q1,_⟩:=I.list s1
   obtain ⟨vs,r2,q2,_⟩:=I.list s2
   obtain ⟨l,it⟩:=zda (A:=A.in1) I (zc7 I n A.in1 (by show A.units+1+n < cLine;omega)) p1 p2 r1 r2
   have:=SeqAt.RcAt.lists (A:=A) (e:=fun _=>true) q1.isList q2.isList (by simp [l]) (by omega) it
   rw [zdc] at this
   exact yfh hab this
end
section
variable {X:Cx}
def rSame (K:PySem.W.Frag) (n:Nat) (b:Bool):R2:=fun x y H Q=>(∃ ts,(Tl K H (n+1) (.tp ts) x∧Tl K H (n+1) (.tp ts) y)∨(Tl K H (n+1) (.ls ts) x∧Tl K H (n+1) (.ls ts) y))∧Q (.bl b) H
theorem op_eqD {n:Nat} (hu:X.A.units+n+1 < cLine):OpR X (ybo .Eq) (rSame X.K n true):=by
 intro pins s σ H x y v u Q I rx ry ⟨⟨ts,h⟩,q⟩
 rcases h with ⟨⟨a,xs,rfl,s1,p1⟩,⟨b,ys,rfl,s2,p2⟩⟩ | ⟨⟨a,xs,rfl,s1,p1⟩,⟨b,ys,rfl,s2,p2⟩⟩
 ·obtain rfl:v=yaD a:=rx
  obtain rfl:u=yaD b:=ry
  obtain ⟨us,r1,q1,_⟩:=I.tuple s1
  obtain ⟨vs,r2,q2,_⟩:=I.tuple s2
  obtain ⟨l,it⟩:=zda (A:=X.A.in1) I (zc7 I n X.A.in1 (by show X.A.units+1+n < cLine;omega)) p1 p2 r1 r2
  refine SeqAt.eq_tupleAt (e:=fun _=>true) (show s.heap.IsTuple a us.toArray from q1) (show s.heap.IsTuple b vs.toArray from q2) (by omega) it ?_
  rw [zdc,ydv,show (us.toArray.size == vs.toArray.size)=true by simp [l]]
  exact ⟨.bl true,H,I,rfl,q⟩
 ·obtain rfl:v=yaD a:=rx
  obtain rfl:u=yaD b:=ry
  obtain ⟨us,r1,q1,_⟩:=I.list s1
  obtain ⟨vs,r2,q2,_⟩:=I.list s2
  obtain ⟨l,it⟩:=zda (A:=X.A.in1) I (zc7 I n X.A.in1 (by show X.A.units+1+n < cLine;omega)) p1 p2 r1 r2
  refine SeqAt.eq_listAt (e:=fun _=>true) q1.isList q2.isList (by simp [l]) (by omega) it ?_
  rw [zdc]
  exact ⟨.bl true,H,I,rfl,q⟩
theorem op_neD {n:Nat} (hu:X.A.units+n+1 < cLine):OpR X (ybo .NotEq) (rSame X.K n false):=by
 intro pins s σ H x y v u Q I rx ry ⟨⟨ts,h⟩,q⟩
 rcases h with ⟨⟨a,xs,rfl,s1,p1⟩,⟨b,ys,rfl,s2,p2⟩⟩ | ⟨⟨a,xs,rfl,s1,p1⟩,⟨b,ys,rfl,s2,p2⟩⟩
 ·obtain rfl:v=yaD a:=rx
  obtain rfl:u=yaD b:=ry
  obtain ⟨us,r1,q1,_⟩:=I.tuple s1
  obtain ⟨vs,r2,q2,_⟩:=I.tuple s2
  obtain ⟨l,it⟩:=zda (A:=X.A.in1) I (zc7 I n X.A.in1 (by show X.A.units+1+n < cLine;omega)) p1 p2 r1 r2
  refine SeqAt.RcNeAt.tuples (e:=fun _=>true) (show s.heap.IsTuple a us.toArray from q1) (show s.heap.IsTuple b vs.toArray from q2) (by omega) it X.prog X.w _ _ ?_
  rw [zdc,ydv,show (us.toArray.size == vs.toArray.size)=true by simp [l]]
  exact ⟨.bl false,H,I,rfl,q⟩
 ·obtain rfl:v=yaD a:=rx
  obtain rfl:u=yaD b:=ry
  obtain ⟨us,r1,q1,_⟩:=I.list s1
  obtain ⟨vs,r2,q2,_⟩:=I.list s2
  obtain ⟨l,it⟩:=zda (A:=X.A.in1) I (zc7 I n X.A.in1 (by show X.A.units+1+n < cLine;omega)) p1 p2 r1 r2
  refine yfg (e:=fun _=>true) q1.isList q2.isList (by simp [l]) (by omega) it X.prog X.w _ _ ?_
  rw [zdc]
  exact ⟨.bl false,H,I,rfl,q⟩
end
section
variable {X:Cx} {K:PySem.W.Frag}
theorem pi_or {tg l:Expr} {wi wj:TI} (h:PI X tg l wi) (h':PI X tg l wj):PI X tg l (fun σ H R=>wi σ H R∨wj σ H R):=by
 intro pins s σ H R I q
 rcases q with q | q
 ·exact h pins s σ H R I q
 ·exact h' pins s σ H R I q
theorem ziH:ybw "set" = some (.type "set"):=by decide +kernel
theorem zfO (hK:X.K=K) (hc:X.calm=true):CallR X (.type "set") (fun xs H Q=>∃ (p:Addr) (ys:List Str),xs = [.ref p]∧SqL K H p (ys.map V.str)∧ys.Nodup∧ys.length≤1000∧∀ l,H l=none→Q (.ref l) (upd H l (setO l ys.length))):=hK ▸ call_setS hc
theorem zfA (hK:X.K=K) (hc:X.calm=true) (hu:X.A.units+4 < cLine):CallR X (.type "set") (fun xs H Q=>∃ (p:Addr) (qs:List Addr) (ks:List (List Key)),xs = [.ref p]∧SqT K H p (qs.map V.ref)∧ks.length=qs.length∧qs.length≤4∧ks.Nodup ∧
  (∀ (i:Nat) (q:Addr) (k:List Key),qs[i]? = some q→ks[i]? = some k→H q=some (.tup (k.map kV)))∧∀ l,H l=none→Q (.ref l) (upd H l (setO l qs.length))):=hK ▸ call_setT hc hu
theorem zeE (hK:X.K=K):CallR X (.type "tuple") (fun xs H Q=>∃ (p:Addr) (ys:List V),xs = [.ref p]∧SqL K H p ys∧∀ (l:Addr) (o:Obj),H l=none→o.cls = .type "tuple"→o.dict=none→Q (.ref l) (upd H l (.frz o (.tup ys)))):=hK ▸ zfn
theorem op_eqDK {n:Nat} (hK:X.K=K) (hu:X.A.units+n+1 < cLine):OpR X (ybo .Eq) (rSame K n true):=hK ▸ op_eqD hu
theorem zih {n:Nat} (hK:X.K=K) (hu:X.A.units+n+1 < cLine):OpR X (ybo .NotEq) (rSame K n false):=hK ▸ op_neD hu
end
structure FunD (K:PySem.W.Frag) (x qual:Str) (st:Stmt) (f:Addr) (dV:Value) (fd:FuncData):Prop where
 ex:∃ (oc:Value) (od:Option Addr) (kV doc pm:Value) (an:Option Addr) (cdv ct:Value) (osl:Array (Option Value)),
  fd=yaI x qual (zas st) (zaq st) (zag st) dV kV doc pm an cdv ct∧K.lookup f=some ⟨oc,od,.func fd,osl⟩∧yaE K cdv qual=true
 kp:yay K (.ref f)=true
section
variable {P:Program} {w:World} {K:PySem.W.Frag} {mg:Str→Option Value} {base:Heap}
theorem FunD.ok {x qual:Str} {st:Stmt} {f:Addr} {dV:Value} {fd:FuncData} {N ps:List Str} {k:Nat} {sp:Sp} (F:FunD K x qual st f dV fd) (S:FnScope N ps (zag st)) (len:∀ vs H Q E,sp vs H Q E→vs.length=ps.length)
  (hbody:∀ (cdv:Value) (A:Around) (outer:List Env) (s:Shared) (H:Hp) (vs:List V) (Q:VK) (E:XK),Room k (A.deeper (envOfC qual (zag st) s.heap.objs.size f cdv))→sp vs H Q E →
   ∃ t,PSs (cxOf CX0 P w K mg base N qual (zag st) f cdv A outer s H E).nox (zaq st) t∧t { nx:=fun _ H'=>Q .non H',rt:=Q } (L2.start N vs) H):FnOk P w K mg base CX0 (k+1) f fd ps sp:=by
 obtain ⟨oc,od,kV,doc,pm,an,cdv,ct,osl,rfl,lk,hcd⟩:=F.ex
 refine fn_of lk hcd S len fun A outer s H vs Q E hr hsp => ?_
 obtain ⟨t,h,q⟩:=hbody cdv A outer s H vs Q E hr hsp
 exact ⟨t,h.nox,q⟩
end
structure MxD (K:PySem.W.Frag) (C:Addr) (m qual:Str) (st:Stmt) where
 f:Addr
 fd:FuncData
 t:Addr
 o:Obj
 n:Nat
 fn:FunD K m qual st f (.ref t) fd
 lo:K.lookup t=some o
 da:o.data = .seq #[.none] n
 me:Meth K C m f
section
variable {X:Cx} {pins:List (Addr×Obj)} {σ:St} {H:Hp} {s:Shared}
open Classical in
end
section
variable {X:Cx} {K:PySem.W.Frag}
open Classical in
end
section
variable {prog:Program} {w:World} {A:Around} {E:Value→Shared→Prop} {s:Shared}
end
structure Zap (z TI TO i1 i2:Addr) (f1 f2:List Addr):Prop where
 zI:TI≠z
 zO:TO≠z
 z1:i1≠z
 z2:i2≠z
 OI:TI≠TO
 O1:i1≠TO
 O2:i2≠TO
 I1:TI≠i1
 I2:TI≠i2
 l12:i1≠i2
 fz1:z∉f1
 fz2:z∉f2
 fO1:TO∉f1
 fO2:TO∉f2
 f21:i2∉f1
 f12:i1∉f2
section
variable {prog:Program} {w:World} {A:Around} {E:Value→Shared→Prop} {s:Shared}
theorem Draws.but {it b:Addr} {fp:List Addr} {n:Nat} {P:Nat→Value→Prop} {St:Nat→Heap→Prop} {i:Nat} {h h':Heap} (D:Draws prog w A it fp n P St) (st:St i h) (e:Heap.SameBut b h h') (hb:b∉fp):St i h' :=
 D.frame i h h' st fun c hc o z=>e.extBut c o (fun q=>hb (q ▸ hc)) z
theorem zip_item {z TI TO i1 i2:Addr} {f1 f2:List Addr} {n1 n2 k:Nat} {P1 P2:Nat→Value→Prop} {S1 S2:Nat→Heap→Prop} {a b:Value} {Q:Value→Shared→Prop} (D1:Draws prog w A i1 f1 n1 P1 S1) (D2:Draws prog w A i2 f2 n2 P2 S2)
  (N:Zap z TI TO i1 i2 f1 f2) (hz:IsZip s.heap z TI TO .none) (hTI:IsPair s.heap TI (.ref i1) (.ref i2)) (hTO:IsPair s.heap TO a b) (s1:S1 k s.heap) (s2:S2 k s.heap) (k1:k < n1) (k2:k < n2)
  (hQ:∀ x y h' tk,P1 k x→P2 k y→IsZip h' z TI TO (rawInt s.heap.objs.size)→IsPair h' TO x y→S1 (k+1) h'→S2 (k+1) h'→IsPair h' s.heap.objs.size x y→h'.objs.size=s.heap.objs.size+1 →
   (∀ c o,c≠z→c≠TO→c≠i1→c≠i2→s.heap.get? c=some o→h'.get? c=some o)→Q (.ref s.heap.objs.size) { s with heap:=h',toks:=tk }) :
  wpAny (model prog w) A (Builtin.«zip.__next__» ⟨[.ref z],[]⟩) (fun fin s'=>∃ v,fin = .done (.ret v)∧Q v s') E s:=by
 show wpAny _ _ (field (.ref z) 2 >>= _) _ _ _
 refine yac (ycW hz rfl (x := .bool false) rfl ?_)
 show wpAny _ _ (field (.ref z) 3 >>= _) _ _ _
 refine yac (ycW hz rfl (x := .ref TI) rfl ?_)
 refine yac (yct hTI rfl ?_)
 show wpAny _ _ (yca (.ref z) >>= _) _ _ _
 refine yac ?_
 unfold yca
 refine yac (ycW hz rfl (x := .none) rfl (yaf ?_))
 simp only [if_true]
 refine yac (ycr ?_)
 refine yac (ycW hz rfl (x := .ref TO) rfl ?_)
 refine yac (ybH hz (by simp) fun h1 hz1 e1 => ?_)
 replace hz1:IsZip h1 z TI TO .ellipsis:=hz1
 refine yac ?_
 simp only [List.zipIdx_cons,List.zipIdx_nil,ydZ,yfq]
 refine yac (yac (wpAny_onRaise ?_))
 show wpAny _ _ (ydI (.ref i1) >>= _) _ _ _
 refine yac (D1.item k _ _ _ k1 (Draws.but D1 s1 e1 N.fz1) fun x h2 t2 p1 q1 e2=>yaf ?_)
 replace e2:Heap.SameBut i1 h1 h2:=e2
 have o2:IsPair h2 TO a b:=e2.extBut _ _ (yco N.O1) (e1.extBut _ _ N.zO hTO)
 refine yac (yct o2 rfl ?_)
 refine yac (wpAny_updateSeq_pair o2 fun h3 o3 e3 => ?_)
 replace o3:IsPair h3 TO x b:=o3
 replace e3:Heap.SameBut TO h2 h3:=e3
 refine yac (wpAny_letGo (yaf ?_))
 refine yac (yac (wpAny_onRaise ?_))
 show wpAny _ _ (ydI (.ref i2) >>= _) _ _ _
 refine yac (D2.item k _ _ _ k2 (Draws.but D2 (Draws.but D2 (Draws.but D2 s2 e1 N.fz2) e2 N.f12) e3 N.fO2) fun y h4 t4 p2 q2 e4=>yaf ?_)
 replace e4:Heap.SameBut i2 h3 h4:=e4
 have o4:IsPair h4 TO x b:=e4.extBut _ _ (yco N.O2) o3
 refine yac (yct o4 rfl ?_)
 refine yac (wpAny_updateSeq_pair o4 fun h5 o5 e5 => ?_)
 replace o5:IsPair h5 TO x y:=o5
 replace e5:Heap.SameBut TO h4 h5:=e5
 refine yac (wpAny_letGo (yaf (yaf ?_)))
 refine yac (yct o5 rfl ?_)
 refine yac (wpAny_newTuple ?_)
 have hsz:h5.objs.size=s.heap.objs.size:=by rw [e5.1,e4.1,e3.1,e2.1,e1.1]
 have hz5:IsZip h5 z TI TO .ellipsis:=e5.extBut _ _ (yco N.zO) (e4.extBut _ _ (yco N.z2) (e3.extBut _ _ (yco N.zO) (e2.extBut _ _ (yco N.z1) hz1)))
 have hk:∀ c o,c≠z→c≠TO→c≠i1→c≠i2→s.heap.get? c=some o→h5.get? c=some o:=fun c o c1 c2 c3 c4 e=>e5.extBut _ _ c2 (e4.extBut _ _ c4 (e3.extBut _ _ c2 (e2.extBut _ _ c3 (e1.extBut _ _ c1 e))))
 have q15:S1 (k+1) h5:=Draws.but D1 (Draws.but D1 (Draws.but D1 q1 e3 N.fO1) e4 N.f21) e5 N.fO1
 have q25:S2 (k+1) h5:=Draws.but D2 q2 e5 N.fO2
 have zlt:z < h5.objs.size:=yak hz5
 show wpAny _ _ (ydJ (.ref z) (.ref h5.objs.size) >>= _) _ _ _
 refine yac ?_
 unfold ydJ
 have hz6:IsZip (h5.push { cls := .type "tuple",data := .seq #[x,y] }) z TI TO .ellipsis:=yad _ hz5
 refine yac (ybH hz6 (by simp) fun h7 hz7 e7 => ?_)
 replace hz7:IsZip h7 z TI TO (rawInt h5.objs.size):=hz7
 refine ybH hz7 (by simp) fun h8 hz8 e8 => ?_
 replace hz8:IsZip h8 z TI TO (rawInt h5.objs.size):=hz8
 have up:∀ c o,c≠z→h5.get? c=some o→h8.get? c=some o:=fun c o c1 e=>e8.extBut _ _ c1 (e7.extBut _ _ c1 (yad _ e))
 have t8:IsPair h8 h5.objs.size x y:=e8.extBut _ _ (ycc zlt) (e7.extBut _ _ (ycc zlt) (yai _ rfl))
 have s8:h8.objs.size=h5.objs.size+1:=by rw [e8.1,e7.1,ybd]
 rw [hsz] at hz8 t8 s8
 refine yaf ⟨_,rfl,?_⟩
 show Q (.ref h5.objs.size) _
 rw [hsz]
 exact hQ x y h8 _ p1 p2 hz8 (up _ _ N.zO o5) (D1.frame _ _ _ q15 fun c hc o e=>up c o (fun q=>N.fz1 (q ▸ hc)) e) (D2.frame _ _ _ q25 fun c hc o e=>up c o (fun q=>N.fz2 (q ▸ hc)) e) t8 s8 fun c o c1 c2 c3 c4 e=>up c o c1 (hk c o c1 c2 c3 c4 e)
theorem zip_end1 {z TI TO i1 i2:Addr} {f1 f2:List Addr} {n1:Nat} {P1:Nat→Value→Prop} {S1:Nat→Heap→Prop} {Q:Fin→Shared→Prop} (D1:Draws prog w A i1 f1 n1 P1 S1)
  (N:Zap z TI TO i1 i2 f1 f2) (hz:IsZip s.heap z TI TO .none) (hTI:IsPair s.heap TI (.ref i1) (.ref i2)) (s1:S1 n1 s.heap)
  (hE:∀ h' e,(∀ c o,c≠z→c≠TO→c≠i1→c≠i2→s.heap.get? c=some o→h'.get? c=some o)→(∃ o,h'.get? e=some o∧o.cls = .type "StopIteration")→E (.ref e) { s with heap:=h' }) :
  wpAny (model prog w) A (Builtin.«zip.__next__» ⟨[.ref z],[]⟩) Q E s:=by
 show wpAny _ _ (field (.ref z) 2 >>= _) _ _ _
 refine yac (ycW hz rfl (x := .bool false) rfl ?_)
 show wpAny _ _ (field (.ref z) 3 >>= _) _ _ _
 refine yac (ycW hz rfl (x := .ref TI) rfl ?_)
 refine yac (yct hTI rfl ?_)
 show wpAny _ _ (yca (.ref z) >>= _) _ _ _
 refine yac ?_
 unfold yca
 refine yac (ycW hz rfl (x := .none) rfl (yaf ?_))
 simp only [if_true]
 refine yac (ycr ?_)
 refine yac (ycW hz rfl (x := .ref TO) rfl ?_)
 refine yac (ybH hz (by simp) fun h1 hz1 e1 => ?_)
 replace hz1:IsZip h1 z TI TO .ellipsis:=hz1
 refine yac ?_
 simp only [List.zipIdx_cons,List.zipIdx_nil,ydZ,yfq]
 refine yac (yac (wpAny_onRaise ?_))
 show wpAny _ _ (ydI (.ref i1) >>= _) _ _ _
 refine yac (D1.done _ _ _ (Draws.but D1 s1 e1 N.fz1) fun h2 e e2 he => ?_)
 replace e2:Heap.ExtBut i1 h1 h2:=e2
 obtain ⟨oe,hoe,hce⟩:=he
 have hz2:IsZip h2 z TI TO .ellipsis:=e2 _ _ (yco N.z1) hz1
 have hez:e≠z:=fun x=>by subst x;rw [hz2] at hoe;cases hoe;simp at hce
 exact ybH hz2 (by simp) fun h3 _ e3=>hE h3 e (fun c o c1 _ c3 _ x=>e3.extBut _ _ c1 (e2 _ _ c3 (e1.extBut _ _ c1 x))) ⟨oe,e3.extBut _ _ hez hoe,hce⟩
end
section
variable {prog:Program} {w:World} {A:Around} {E:Value→Shared→Prop} {s:Shared}
theorem pn_zip {z TI TO i1 i2:Addr} {f1 f2:List Addr} {n1 n2 k:Nat} {P1 P2:Nat→Value→Prop} {S1 S2:Nat→Heap→Prop} {a b:Value} {Q:Option Value→Shared→Prop} (hh:A.handled=none) (D1:∀ A:Around,A.handled=none→Draws prog w A i1 f1 n1 P1 S1) (D2:∀ A:Around,A.handled=none→Draws prog w A i2 f2 n2 P2 S2)
  (N:Zap z TI TO i1 i2 f1 f2) (hz:IsZip s.heap z TI TO .none) (hTI:IsPair s.heap TI (.ref i1) (.ref i2)) (hTO:IsPair s.heap TO a b) (s1:S1 k s.heap) (s2:S2 k s.heap) (k1:k < n1) (k2:k < n2)
  (hQ:∀ x y h' tk,P1 k x→P2 k y→IsZip h' z TI TO (rawInt s.heap.objs.size)→IsPair h' TO x y→S1 (k+1) h'→S2 (k+1) h'→IsPair h' s.heap.objs.size x y→h'.objs.size=s.heap.objs.size+1 →
   (∀ c o,c≠z→c≠TO→c≠i1→c≠i2→s.heap.get? c=some o→h'.get? c=some o)→Q (some (.ref s.heap.objs.size)) { s with heap:=h',toks:=tk }) :
  wpAny (model prog w) A (yfb (.ref z)) Q E s:=by
 have hT:s.TypeIs (.ref z) "zip":=⟨_,hz,rfl⟩
 unfold yfb
 refine yac (ydw (ybX (name:=ycf "__next__") hT yeY
  (ybq yeY hT F.entry_zip_next (zip_item (D1 _ (by exact hh)) (D2 _ (by exact hh)) N hz hTI hTO s1 s2 k1 k2 fun x y h' tk a1 a2 a3 a4 a5 a6 a7 a8 a9=>yaf (hQ x y h' tk a1 a2 a3 a4 a5 a6 a7 a8 a9)) (F.args_zip_next_1 _))))
theorem pn_zipE {z TI TO i1 i2:Addr} {f1 f2:List Addr} {n1:Nat} {P1:Nat→Value→Prop} {S1:Nat→Heap→Prop} {Q:Option Value→Shared→Prop} (hh:A.handled=none) (D1:∀ A:Around,A.handled=none→Draws prog w A i1 f1 n1 P1 S1)
  (N:Zap z TI TO i1 i2 f1 f2) (hz:IsZip s.heap z TI TO .none) (hTI:IsPair s.heap TI (.ref i1) (.ref i2)) (s1:S1 n1 s.heap)
  (hQ:∀ h',(∀ c o,c≠z→c≠TO→c≠i1→c≠i2→s.heap.get? c=some o→h'.get? c=some o)→Q none { s with heap:=h' }):wpAny (model prog w) A (yfb (.ref z)) Q E s:=by
 have hT:s.TypeIs (.ref z) "zip":=⟨_,hz,rfl⟩
 unfold yfb
 refine yac (ydw (ybX (name:=ycf "__next__") hT yeY
  (ybq yeY hT F.entry_zip_next (zip_end1 (D1 _ (by exact hh)) N hz hTI s1 fun h' e hk he => ?_) (F.args_zip_next_1 _))))
 obtain ⟨o,ho,hc⟩:=he
 exact yac (wpAny_isInstance (T := "StopIteration") (b:=true) ⟨o,ho,hc⟩ isSubtype_stop (yaf (hQ _ hk)))
end
section
variable {X:Cx} {pins:List (Addr×Obj)} {σ:St} {H:Hp} {s:Shared} {h':Heap}
theorem Inv.turnedL {t':Nat} {ch:List Addr} (I:Inv X pins σ H s) (k:∀ b o,b∉ch→s.heap.get? b=some o→h'.get? b=some o) (F:∀ b∈ch,FpOk X pins H b):Inv X pins σ H { s with heap:=h',toks:=t' }:=by
 have n1:∀ b u,H b=some u→b∉ch:=fun b u e z=>by rw [(F b z).1] at e;cases e
 refine I.step (g':=s.gens) (d':=s.drawn) (ch:=ch) (fun b hb=>⟨(F b hb).2.2.2.1,(F b hb).2.1,(F b hb).2.2.2.2.1,(F b hb).2.2.2.2.2⟩) (fun b o _ _ hc e _=>k b o hc e) (fun b o _ _ hc e _=>⟨o.slots,k b o hc e⟩) (fun _ _ _ _ n=>n)
  (fun b o hc e=>⟨o,k b o hc e⟩) (fun _ _ e=>e) (fun _ _ _ e=>e) (fun b ps e=>⟨#[],by rw [e];simp⟩) (fun m hm => ?_) (fun b u e => ?_) I.bare
 ·obtain ⟨o,es,ep,ho,r⟩:=hm
  exact ⟨o,es,ep,k _ o (fun z=>(F _ z).2.1 rfl) ho,r⟩
 ·refine (I.hok b u e).stay (fun c v hc q => ?_) (fun _ q=>q) fun _ _ q=>q
  rcases hc with z | z
  ·subst z
   exact k c v (n1 c u e) q
  ·exact k c v (n1 c _ z) q
end
section
variable {prog:Program} {w:World} {A:Around} {E:Value→Shared→Prop} {s:Shared}
end
theorem zap_mk (n l t:Nat) (hl:l < n) (ht:t < n):Zap (n+4:Nat) (n+2:Nat) (n+3:Nat) n (n+1:Nat) [n,l] [(n+1:Nat),t]:=by
 have a1:l≠n:=by omega
 have a2:∀ k:Nat,n+k≠l:=fun k=>by omega
 have a3:∀ k:Nat,n+k≠t:=fun k=>by omega
 have a4:n≠t:=by omega
 have b1:∀ a b:Nat,a≠b→n+a≠n+b:=fun a b z=>by omega
 have b2:∀ a:Nat,0 < a→n+a≠n:=fun a z=>by omega
 have b3:∀ a:Nat,0 < a→n≠n+a:=fun a z=>by omega
 have m2:∀ c p q:Nat,c≠p→c≠q→c ∉ [p,q]:=fun c p q z y=>by simp [z,y]
 exact ⟨b1 _ _ (by decide),b1 _ _ (by decide),b3 _ (by decide),b1 _ _ (by decide),b1 _ _ (by decide),b3 _ (by decide),b1 _ _ (by decide),b2 _ (by decide),b1 _ _ (by decide),b3 _ (by decide),
  m2 _ _ _ (b2 _ (by decide)) (a2 _),m2 _ _ _ (b1 _ _ (by decide)) (a3 _),m2 _ _ _ (b2 _ (by decide)) (a2 _),m2 _ _ _ (b1 _ _ (by decide)) (a3 _),m2 _ _ _ (b2 _ (by decide)) (a2 _),m2 _ _ _ (b3 _ (by decide)) a4⟩
theorem five (n b:Nat) (h:b=n+4∨b=n+3∨b=n∨b=n+1∨b=n+2):n≤b:=by omega
theorem bt_zip:ybw "zip" = some (.type "zip"):=by decide +kernel
def rEqE (K:PySem.W.Frag) (neg:Bool):R2:=fun x y H Q=>∃ a b xs,x = .ref a∧y = .ref b∧SqL K H a xs∧SqL K H b []∧Q (.bl (if neg then !xs.isEmpty else xs.isEmpty)) H
theorem op_neE {X:Cx} {K:PySem.W.Frag} (hK:X.K=K) (hu:X.A.units < cLine):OpR X (ybo .NotEq) (rEqE K true):=by
 subst hK
 intro pins s σ H x y v u Q I rx ry h
 obtain ⟨a,b,xs,rfl,rfl,ha,hb,q⟩:=h
 cases xs with
 | nil=>exact op_neL hu pins s σ H _ _ v u Q I rx ry ⟨a,b,_,_,rfl,rfl,ha,hb,rfl,rfl,q⟩
 | cons z zs =>
  cases rx;cases ry
  obtain ⟨us,r1,p1,z1⟩:=I.list ha
  obtain ⟨ws,r2,p2,z2⟩:=I.list hb
  exact SeqAt.RcNeAt.lists_lengths p1.isList p2.isList (by simp [← r1.length,← r2.length]) hu X.prog X.w _ _ ⟨.bl true,H,I,rfl,q⟩
end L2
namespace L2
open PySem PySem.Spec PyProof.Rows
theorem zho:∀ l:List (Str×Tok),Vals ((l.map (·.1)).map V.str) (strValues l)
 | [] => .nil
 | (x,t) :: l => .cons ⟨t,rfl⟩ (zho l)
section
variable {X:Cx} {K:PySem.W.Frag}
theorem splitP {prog:Program} {w:World} {A:Around} {E:Value→Shared→Prop} {s:Shared} {x y:Str} {t u:Tok} {Q:Value→Shared→Prop} (hy:(y.length == 0)=false) (hsz:x.length+2≤yaW)
  (h:∀ (l:List (Str×Tok)) (k:Nat),l.map (·.1)=yaV x y→l.length≤yaW→Q (.ref s.heap.objs.size) { s with heap:=s.heap.push { cls := .type "list",data := .seq (strValues l).toArray },toks:=k }) :
  wpAny (model prog w) A (call (.builtin "str.split") [.str x t,.str y u]) Q E s:=by
 have hn:(ydS x (ybK x y 0 x.length (x.length+1)) y.length).length≤yaW:=by
  have e1:=StrLaws.occ_length_le x y 0 x.length (x.length+1)
  rw [length_partsBetween];omega
 cases h1:(decide (x.length < y.length) || decide (ydP x < ydP y))
 ·cases hf:(ybK x y 0 x.length (x.length+1)).isEmpty
  ·refine yeg F.slot_str_split (yfC _ _ _) F.entry_str_split (yfi _ _) (meets_str_split_sep x y t u h1 hy hf (by omega) hn) ?_
   show wants Q E _ { s with toks:=_,heap:=s.heap.push { cls := .type "list",data := .seq (strsFrom s.toks (ydS x (ybK x y 0 x.length (x.length+1)) y.length)).toArray } }
   rw [strsFrom_eq]
   have e2:=numbered_texts s.toks (ydS x (ybK x y 0 x.length (x.length+1)) y.length)
   refine h (numbered s.toks _) _ (e2.trans ((if_neg (ne_true_of_eq_false h1)).trans (if_neg (ne_true_of_eq_false hf))).symm) ?_
   rw [← yaa (f:=(·.1)),e2]
   exact hn
  ·exact yeg F.slot_str_split (yfC _ _ _) F.entry_str_split (yfi _ _) (meets_str_split_not_found x y t u h1 hy hf)
    (h [(x,t)] s.toks ((if_neg (ne_true_of_eq_false h1)).trans (if_pos hf)).symm (by show 1≤yaW;decide))
 ·exact yeg F.slot_str_split (yfC _ _ _) F.entry_str_split (yfi _ _) (meets_str_split_cannot_occur x y t u h1)
   (h [(x,t)] s.toks (if_pos h1).symm (by show 1≤yaW;decide))
theorem zcM:MtM X "str.split" (fun x vs H Q=>∃ a y:Str,x = .str a∧vs = [.str y]∧(y.length == 0)=false∧a.length+2≤yaW∧∀ p,H p=none→Q (.ref p) (upd H p (.lst ((yaV a y).map V.str)))):=by
 intro pins s σ H x vs v us Q I rx rv h
 obtain ⟨a,y,rfl,rfl,hy,hz,q⟩:=h
 obtain ⟨t,rfl⟩:=rx
 obtain ⟨u,rfl,tu,rfl⟩:=vals1 rv
 refine splitP hy hz fun l k e hl => ?_
 refine ⟨.ref s.heap.objs.size,_,I.laid (t':=k) (o := .lst ((yaV a y).map V.str)) (fun b ob q=>yad _ q) (yag _) ?_,rfl,q _ (I.hok.fresh (yag _))⟩
 exact ⟨by rw [yaa,← e,yaa];exact hl,strValues l,0,e ▸ zho l,yai _ rfl⟩
end
section
variable {X:Cx} {pins:List (Addr×Obj)} {σ:St} {H:Hp} {s:Shared}
end
def ItzL (K:PySem.W.Frag) (l t:Addr):It :=
 ⟨fun i H=>∃ xs ys x y,SqL K H l xs∧SqL K H t ys∧xs[i]? = some x∧ys[i]? = some y,
  fun i H v H'=>∃ u x y,H u=none∧v = .ref u∧H'=upd H u (.tup [x,y])∧(∀ xs,SqL K H l xs→xs[i]? = some x)∧∀ ys,SqL K H t ys→ys[i]? = some y,
  fun i H=>∃ xs,SqL K H l xs∧xs.length=i∧∃ ys,SqL K H t ys⟩
theorem turn_zipL {P:Program} {w:World} {K:PySem.W.Frag} {elts:List Expr} {x1:Nat} {pos:Pos} (l t z TI TO i1 i2:Addr) (N:Zap z TI TO i1 i2 [i1,l] [i2,t]) (nl:l≠i1) (nt:t≠i2) :
  Turn P w K (.Tuple elts x1 pos) (ItzL K l t) [z,TO,i1,i2,TI] z (fun i h=>IsZip h z TI TO .none∧IsPair h TI (.ref i1) (.ref i2)∧(∃ a b,IsPair h TO a b)∧h.IsListIter i1 l i∧h.IsListIter i2 t i) where
 mem:=by simp
 obj:=fun i h st b hb=>by
  obtain ⟨hz,hI,⟨a',b',hO⟩,⟨o1,e1,c1,d1⟩,⟨o2,e2,c2,d2⟩⟩:=st
  have e':b=z∨b=TO∨b=i1∨b=i2∨b=TI:=by simpa using hb
  rcases e' with rfl | rfl | rfl | rfl | rfl
  ·exact ⟨_,hz,fun v q=>by cases q⟩
  ·exact ⟨_,hO,fun v q=>by cases q⟩
  ·exact ⟨o1,e1,fun v q=>by rw [d1] at q;cases q⟩
  ·exact ⟨o2,e2,fun v q=>by rw [d2] at q;cases q⟩
  ·exact ⟨_,hI,fun v q=>by cases q⟩
 keep:=(by rintro i h h' ⟨hz,hI,⟨a',b',hO⟩,h1,h2⟩ k;exact ⟨k z (by simp) _ hz,k TI (by simp) _ hI,⟨a',b',k TO (by simp) _ hO⟩,h1.at fun o e=>k i1 (by simp) o e,h2.at fun o e=>k i2 (by simp) o e⟩)
 item:=by
  intro X hP hw hK hc i pins s σ H E I hf st hg
  subst hP hw hK
  obtain ⟨xs,ys,x,y,hq,hr,hx,hy⟩:=hg
  obtain ⟨its,rv,p,hz⟩:=I.list hq
  obtain ⟨jts,rw',p',hz'⟩:=I.list hr
  obtain ⟨u,hu,ru⟩:=rv.get hx
  obtain ⟨v,hv,rw2⟩:=rw'.get hy
  obtain ⟨zz,zI,⟨a,b,zO⟩,s1,s2⟩:=st
  have pT:s.heap.IsList t jts.toArray:=p'.isList
  have lu:i < its.length:=(List.getElem?_eq_some_iff.1 hu).1
  have lv:i < jts.length:=(List.getElem?_eq_some_iff.1 hv).1
  refine pn_zip (I.ok.hd hc) (fun A hh=>Draws.list hh i1 l nl its.toArray) (fun A hh=>Draws.list hh i2 t nt jts.toArray) N zz zI zO ⟨s1,p.isList⟩ ⟨s2,pT⟩ (by simpa using lu) (by simpa using lv) fun x' y' h1 tk q1 q2 a3 a4 a5 a6 a7 a8 a9=>⟨_,rfl,?_⟩
  have ex:x'=u:=by
   have q:its.toArray[i]? = some x':=q1
   simp at q;rw [hu] at q;exact (yas q).symm
  have ey:y'=v:=by
   have q:jts.toArray[i]? = some y':=q2
   simp at q;rw [hv] at q;exact (yas q).symm
  subst ex ey
  refine wpAny_letOwnedTupleGo_zip (s:={ s with heap:=h1,toks:=tk }) a3 fun h2 z4 sb => ?_
  have lt:∀ {c o},s.heap.get? c=some o→c≠s.heap.objs.size:=fun e=>yaF (yak e)
  let T:Obj:={ cls := .type "tuple",data := .seq #[x',y'] }
  have I1:Inv X pins σ (upd H s.heap.objs.size (.tup [x,y])) { s with heap:=s.heap.push T,toks:=s.toks } :=
   I.laid (fun b o e=>yad _ e) (yag _) (show ObjOk X.prog X.w _ _ _ (.tup [x,y]) from ⟨zac (show 2≤100000 by decide),[x',y'],.cons ru (.cons rw2 .nil),IsTup.new _ _⟩)
  have thr:∀ b ∈ [z,TO,i1,i2,TI],∃ o,s.heap.get? b=some o:=fun b hb=>by
   obtain ⟨o1,e1,_⟩:=s1
   obtain ⟨o2,e2,_⟩:=s2
   have e':b=z∨b=TO∨b=i1∨b=i2∨b=TI:=by simpa using hb
   rcases e' with e' | e' | e' | e' | e' <;> subst e' <;> exact ⟨_,by assumption⟩
  have fp:∀ b ∈ [z,TO,i1,i2,TI],FpOk X pins (upd H s.heap.objs.size (.tup [x,y])) b:=fun b hb=>by
   obtain ⟨o,ho⟩:=thr b hb
   exact ⟨by rw [zar (lt ho)];exact (hf b hb).1,(hf b hb).2⟩
  have nz:s.heap.objs.size≠z:=yco (lt zz)
  have I2:Inv X pins σ (upd H s.heap.objs.size (.tup [x,y])) { s with heap:=h2,toks:=tk } :=
   Inv.turnedL (s:={ s with heap:=s.heap.push T,toks:=s.toks }) (t':=tk) (ch := [z,TO,i1,i2]) I1 (fun b o hb e=>by
    have hb':b≠z∧b≠TO∧b≠i1∧b≠i2:=by simpa using hb
    rcases Heap.get?_push_cases e with ⟨rfl,rfl⟩ | e'
    ·exact (sb.2 _ hb'.1).trans a7
    ·exact (sb.2 _ hb'.1).trans (a9 b o hb'.1 hb'.2.1 hb'.2.2.1 hb'.2.2.2 e')) (fun b hb=>fp b (by
     have e':b=z∨b=TO∨b=i1∨b=i2:=by simpa using hb
     rcases e' with e' | e' | e' | e' <;> subst e' <;> simp))
  refine ⟨.ref s.heap.objs.size,_,I2,rfl,⟨_,x,y,I.hok.fresh (yag _),rfl,rfl,fun ys' hy'=>by rw [I.list_inj hy' hq];exact hx,fun ys' hy'=>by rw [I.list_inj hy' hr];exact hy⟩,⟨z4,?_,⟨x',y',?_⟩,?_,?_⟩,fun b hb=>(fp b hb).1⟩
  ·exact (sb.2 _ N.zI).trans (a9 _ _ N.zI N.OI N.I1 N.I2 zI)
  ·exact (sb.2 _ N.zO).trans a4
  ·obtain ⟨o,ho,r⟩:=a5.1
   exact ⟨o,(sb.2 _ N.z1).trans ho,r⟩
  ·obtain ⟨o,ho,r⟩:=a6.1
   exact ⟨o,(sb.2 _ N.z2).trans ho,r⟩
 done:=by
  intro X hP hw hK hc i pins s σ H E I hf st hg
  subst hP hw hK
  obtain ⟨xs,hq,hx,ys,hr⟩:=hg
  obtain ⟨its,rv,p,hz⟩:=I.list hq
  obtain ⟨zz,zI,⟨a,b,zO⟩,s1,s2⟩:=st
  have hl:=rv.length
  have e:i=its.toArray.size:=by simp;omega
  exact pn_zipE (I.ok.hd hc) (fun A hh=>Draws.list hh i1 l nl its.toArray) N zz zI ⟨e ▸ s1,p.isList⟩ fun h' kp=>⟨rfl,Inv.turnedL (t':=s.toks) (ch := [z,TO,i1,i2]) I (fun b o hb q=>by
   have hb':b≠z∧b≠TO∧b≠i1∧b≠i2:=by simpa using hb
   exact kp b o hb'.1 hb'.2.1 hb'.2.2.1 hb'.2.2.2 q) (fun b hb=>hf b (by
    have e':b=z∨b=TO∨b=i1∨b=i2:=by simpa using hb
    rcases e' with e' | e' | e' | e' <;> subst e' <;> simp))⟩
 self:=fun _ _ _ _ _ st h=>wpAny_pyIter_zip st.1 h
abbrev yh1 (h:Heap) (l:Addr):Heap:=h.push { cls := .type "list_iterator",data := .fields #[.ref l,.int 0 0] }
abbrev yh2 (h:Heap) (l t:Addr):Heap:=(yh1 h l).push { cls := .type "list_iterator",data := .fields #[.ref t,.int 0 0] }
abbrev yh3 (h:Heap) (l t:Addr):Heap:=(yh2 h l t).push { cls := .type "tuple",data := .seq #[.ref h.objs.size,.ref (yh1 h l).objs.size] }
abbrev yh4 (h:Heap) (l t:Addr):Heap:=(yh3 h l t).push { cls := .type "tuple",data := .seq #[.none,.none] }
abbrev yh5 (h:Heap) (l t:Addr):Heap:=(yh4 h l t).push { cls := .type "zip",data := .fields #[.none,.bool false,.bool false,.ref (yh2 h l t).objs.size,.ref (yh3 h l t).objs.size] }
theorem zib (l t:Addr) (xs ys:Array Value) :
  Meets (Builtin.«zip.__new__» ⟨[.type "zip",.ref l,.ref t],[]⟩) (fun _ R s=>s.heap.IsList l xs∧s.heap.IsList t ys∧R (.ok (.ret (.ref (yh4 s.heap l t).objs.size))) { s with heap:=yh5 s.heap l t }) :=
 .of_wp fun prog w A R s h=>by
  obtain ⟨hp,g,d,tk,os⟩:=s;obtain ⟨hl1,hl2,h⟩:=h
  have hsub:=sub_zip
  have hL1:Heap.IsList (Shared.heap ⟨hp,g,d,tk,os⟩) l xs:=hl1
  have hL2:Heap.IsList (Shared.heap ⟨hp.push { cls := .type "list_iterator",data := .fields #[.ref l,.int 0 0] },g,d,tk,os⟩) t ys:=Heap.IsList.push hl2 _
  wp_walk using ycI hL1,ycI hL2
  exact ⟨_,rfl,h⟩
section
variable {prog:Program} {w:World} {A:Around} {E:Value→Shared→Prop} {s:Shared}
theorem zjs {l t:Addr} {xs ys:Array Value} {Q:Value→Shared→Prop} (hl1:s.heap.IsList l xs) (hl2:s.heap.IsList t ys)
  (h:∀ h',IsZip h' (s.heap.objs.size+4) (s.heap.objs.size+2) (s.heap.objs.size+3) .none→IsPair h' (s.heap.objs.size+2) (.ref s.heap.objs.size) (.ref (s.heap.objs.size+1)) →
   IsPair h' (s.heap.objs.size+3) .none .none→h'.IsListIter s.heap.objs.size l 0→h'.IsListIter (s.heap.objs.size+1) t 0 →
   (∀ c o,s.heap.get? c=some o→h'.get? c=some o)→Q (.ref (s.heap.objs.size+4)) { s with heap:=h' }) :
  wpAny (model prog w) A (call (.type "zip") [.ref l,.ref t]) Q E s:=by
 refine callType_new F.called_zip (by decide) (F.typeCall_zip_2 _ _) (F.newCall_zip_2 _ _) (fun obj=>F.args_object_init_3 obj _ _) F.entry_zip_new
  (zib l t xs ys) ⟨hl1,hl2,?_⟩
 have z1:(yh1 s.heap l).objs.size=s.heap.objs.size+1:=ybd ..
 have z2:(yh2 s.heap l t).objs.size=s.heap.objs.size+2:=by rw [ybd,z1]
 have z3:(yh3 s.heap l t).objs.size=s.heap.objs.size+3:=by rw [ybd,z2]
 have z4:(yh4 s.heap l t).objs.size=s.heap.objs.size+4:=by rw [ybd,z3]
 have g5:(yh5 s.heap l t).get? (yh4 s.heap l t).objs.size=some _:=yai _ rfl
 have g4:(yh5 s.heap l t).get? (yh3 s.heap l t).objs.size=some _:=yad _ (yai _ rfl)
 have g3:(yh5 s.heap l t).get? (yh2 s.heap l t).objs.size=some _:=yad _ (yad _ (yai _ rfl))
 have g2:(yh5 s.heap l t).get? (yh1 s.heap l).objs.size=some _:=yad _ (yad _ (yad _ (yai _ rfl)))
 have g1:(yh5 s.heap l t).get? s.heap.objs.size=some _:=yad _ (yad _ (yad _ (yad _ (yai _ rfl))))
 show _∧_
 rw [z2,z3,z4] at g5
 rw [z1,z2] at g3
 rw [z3] at g4
 rw [z1] at g2
 rw [z4]
 exact ⟨⟨_,g5,rfl⟩,h _ g5 g3 g4 ⟨_,g1,rfl,rfl⟩ ⟨_,g2,rfl,rfl⟩ fun c o x =>
  yad _ (yad _ (yad _ (yad _ (yad _ x))))⟩
end
def iZipL (K:PySem.W.Frag) (ta:TA):TI:=fun σ H R=>ta σ H fun vs H1=>∃ l t,vs = [.ref l,.ref t]∧(∃ xs,SqL K H1 l xs)∧(∃ ys,SqL K H1 t ys)∧R (ItzL K l t) H1
theorem pi_zipL {X:Cx} {K:PySem.W.Frag} {elts:List Expr} {x1:Nat} {tpos:Pos} {a b:Expr} {ta:TA} {p pos:Pos} (hK:X.K=K) (hg:Gl X "zip") (hm:X.mg "zip" = none) (ha:PA X [a,b] ta) (hs:ya6 [a,b] X.env=(false,eval a X.env) :: ya6 [b] X.env:=by rfl) (hs2:ya6 [b] X.env = [(false,eval b X.env)]:=by rfl) :
  PI X (.Tuple elts x1 tpos) (.Call (.Name "zip" p) [a,b] [] pos) (iZipL K ta):=by
 subst hK
 intro pins s σ H R I h
 refine Call_ (zfK I hg hm bt_zip (ycK (thn (ha pos pins s σ H _ I h) fun us s1 ho_ => ?_) hs (by rw [hs2];rfl)))
 obtain ⟨vs,H1,I1,r1,q1⟩:=ho_
 obtain ⟨l,t,e,⟨xs,hq⟩,⟨ys,hr⟩,q⟩:=q1
 subst e
 cases r1 with
 | cons r rr =>
  cases rr with
  | cons r' rr' =>
   cases rr'
   obtain rfl:_=yaD l:=r
   obtain rfl:_=yaD t:=r'
   obtain ⟨its,rv,pl,hz⟩:=I1.list hq
   obtain ⟨jts,rv',pt,hz'⟩:=I1.list hr
   have pT:s1.heap.IsList t jts.toArray:=pt.isList
   refine zjs pl.isList pT fun h' a1 a2 a3 a4 a5 kp => ?_
   refine wpAny_pyIter_zip (s:={ s1 with heap:=h' }) a1 ?_
   have fr:∀ b,s1.heap.objs.size≤b→FpOk X pins H1 b:=fun b hb=>I1.fpOk hb (I1.hok.fresh hb)
   have ll:l < s1.heap.objs.size:=let ⟨o,ho,_⟩:=pl.isList;yak ho
   have lt:t < s1.heap.objs.size:=let ⟨o,ho,_⟩:=pT;yak ho
   refine ⟨s1.heap.objs.size+4,[s1.heap.objs.size+4,s1.heap.objs.size+3,s1.heap.objs.size,s1.heap.objs.size+1,s1.heap.objs.size+2],_,_,H1,rfl,I1.kept (t':=s1.toks) kp,turn_zipL l t _ (s1.heap.objs.size+2) _ _ _ (zap_mk _ l t ll lt) (yaF ll) (yaF (ycg lt)),⟨a1,a2,⟨_,_,a3⟩,a4,a5⟩,fun b hb=>fr b ?_,q⟩
   have e':b=s1.heap.objs.size+4∨b=s1.heap.objs.size+3∨b=s1.heap.objs.size∨b=s1.heap.objs.size+1∨b=s1.heap.objs.size+2:=by simpa using hb
   exact five _ _ e'
theorem zhX {c:Const} {j:Nat} {p:Pos} {es:List Expr} {env:Env}:ya6 (.Constant c j p :: es) env=(false,eval (.Constant c j p) env) :: ya6 es env:=rfl
theorem se_Name {x:Str} {p:Pos} {es:List Expr} {env:Env}:ya6 (.Name x p :: es) env=(false,eval (.Name x p) env) :: ya6 es env:=rfl
theorem zhk {a b:Expr} {p:Pos} {es:List Expr} {env:Env}:ya6 (.Subscript a b p :: es) env=(false,eval (.Subscript a b p) env) :: ya6 es env:=rfl
theorem zcO {a b:Expr} {o:Operator} {p:Pos} {es:List Expr} {env:Env}:ya6 (.BinOp a o b p :: es) env=(false,eval (.BinOp a o b p) env) :: ya6 es env:=rfl
section
variable {X:Cx} {a b e:Expr} {es:List Expr} {te ta tb:TE} {t:TA} {pos:Pos}
end
end L2
namespace L2
open PySem PySem.Spec PyProof.Rows
structure JE (X:Cx) (e:Expr) (t:TE):Prop where
 to:PE X e t
structure JA (X:Cx) (es:List Expr) (t:TA):Prop where
 to:PA X es t
structure JS (X:Cx) (st:Stmt) (t:TS):Prop where
 to:PS X st t
structure JSs (X:Cx) (st:List Stmt) (t:TS):Prop where
 to:PSs X st t
section
variable {X:Cx} {a b e:Expr} {es:List Expr} {te ta tb:TE} {t:TA} {pos:Pos} {st:Stmt} {rest:List Stmt} {ts us:TS}
theorem jex {φ:TS→Prop} (h:JSs X rest ts) (g:φ ts):∃ t,PSs X rest t∧φ t:=⟨ts,h.to,g⟩
theorem je_op {op:Operator} {r:R2} (ho:OpR X (yeH op) r) (ha:PE X a ta) (hb:JE X b tb):JE X (.BinOp a op b pos) (tOp r ta tb):=⟨pe_op ho ha hb.to⟩
theorem je_lst (h:JA X es t):JE X (.List es pos) (tLst t):=⟨zaS h.to⟩
theorem ja_nil:JA X [] tNil:=⟨zad⟩
theorem zco (ha:PE X e te) (hr:JA X es t) (hs:ya6 (e :: es) X.env=(false,eval e X.env) :: ya6 es X.env):JA X (e :: es) (tCons te t):=⟨zaa ha hr.to hs⟩
theorem js_of (h:PS X st ts):JS X st ts:=⟨h⟩
theorem js_set {i:Nat} {x:Str} {pos':Pos} (hN:X.N.Nodup) (hi:X.N[i]? = some x) (hx:Loc X.env.scope x) (he:JE X e te) (hs:swapsWith e (some (.Name x pos')) pos.line X.env=pure false:=by rfl) (hf:X.fn x=true∨X.env.scope.names.lookup x=some .local:=by first | exact .inl rfl | exact .inr rfl | assumption) :
  JS X (.Assign [.Name x pos'] e pos) (tAsg te (gName i)):=⟨zat hN hi hx he.to hs hf⟩
theorem zba (h1:JS X st ts) (h2:JSs X rest us):JSs X (st :: rest) (tSeq ts us):=⟨zae h1.to h2.to⟩
theorem jss_one (h1:JS X st ts):JSs X [st] ts:=⟨zah h1.to⟩
end
section
variable {X:Cx} {ex:St→XK} {C:Addr} {x m qual:Str} {st:Stmt} {ps:List Str} {k:Nat} {sp:Sp} {o e:Expr} {es:List Expr} {ta:TE} {t:TA} {apos p pos:Pos}
end
section
variable {P:Program} {w:World} {K:PySem.W.Frag} {mg:Str→Option Value} {base:Heap} {N:List Str} {qual:Str} {scope:Scope} {f:Addr} {cd:Value} {A:Around} {outer:List Env} {s0:Shared} {H0:Hp} {E:XK}
 {x:Str} {st:Stmt} {ps:List Str} {k:Nat} {sp:Sp} {e:Expr} {es:List Expr} {t:TA} {p pos:Pos}
end
section
variable {X:Cx} {K:PySem.W.Frag} {e:Expr} {es:List Expr} {te:TE} {t:TA}
end
section
variable {P:Program} {w:World} {K:PySem.W.Frag} {mg:Str→Option Value} {base:Heap}
end
section
variable {X:Cx} {C:Addr} {m qual:Str} {st:Stmt} {ps:List Str} {k:Nat} {sp:Sp} {o:Expr} {ta:TE} {apos pos:Pos}
end
section
variable {X:Cx} {K:PySem.W.Frag}
end
section
variable {X:Cx} {elt tg iter:Expr} {ifs:List Expr} {scope:Scope} {pos:Pos} {N:List Str} {own:Nat} {caps:List Nat} {g:TG} {tt:TT} {te:TE}
end
section
variable {M:Model} {A:Around} {E:Value→Shared→Prop} {s:Shared} {base:Heap} {env:Env} {outer:List Env} {L e:Addr} {Q:Unit→Shared→Prop}
end
section
variable {P:Program} {w:World} {K:PySem.W.Frag} {mg:Str→Option Value} {base:Heap} {N:List Str} {qual:Str} {scope:Scope} {f:Addr} {cd:Value} {A:Around} {outer:List Env} {s0:Shared} {H0:Hp} {E:XK}
end
section
variable {X:Cx} {E:XK} {elt tg iter:Expr} {ifs:List Expr} {scope:Scope} {pos:Pos} {N:List Str} {own:Nat} {caps:List Nat} {g:TG} {tt:TT} {te:TE} {wi:TI}
end
section
variable {X:Cx} {ex:St→XK} {x:Str} {st:Stmt} {ps:List Str} {k:Nat} {sp:Sp} {e:Expr} {es:List Expr} {t:TA} {p pos:Pos}
end
section
variable {X:Cx} {ex:St→XK} {C f:Addr} {fd:FuncData} {x:Str} {ps:List Str} {k:Nat} {sp:Sp} {dvs:List V} {ds:List Value} {e:Expr} {es:List Expr} {t:TA} {p pos:Pos}
end
section
variable {P:Program} {w:World} {κ:Type} [DecidableEq κ] {knd:PySem.KeyKind P w κ} {A:Around} {E:Value→Shared→Prop} {s:Shared}
end
section
variable {P:Program} {w:World} {κ:Type} [DecidableEq κ] {knd:PySem.KeyKind P w κ} {A:Around} {E:Value→Shared→Prop} {s:Shared}
end
section
variable {P:Program} {w:World} {A:Around} {E:Value→Shared→Prop} {s:Shared}
theorem loop_setB {R:Result→Shared→Prop} {I S:Addr} {fp:List Addr} {n:Nat} {Pv:Nat→Value→Prop} {St:Nat→Heap→Prop} (W:Walks P w A.in1 I fp [I] n Pv St) (hS:S∉fp) (Good:Nat→Heap→Prop)
  (g1:∀ i h h',Good i h→(∀ b o,b≠I→h.get? b=some o→h'.get? b=some o)→Good i h')
  (g2:∀ (i:Nat) (s:Shared) (v:Value) (Q:Bool→Shared→Prop) (E':Value→Shared→Prop),i < n→Pv i v→Good i s.heap→(∀ b h' tk,Heap.SameBut S s.heap h'→Good (i+1) h'→Q b { s with heap:=h',toks:=tk }) →
   wpAny (model P w) A.in1 (setAdd S v) Q E' s) :
  ∀ (k i:Nat) (s:Shared),n - i=k→i≤n→St i s.heap→Good i s.heap →
   (∀ h' tk,(∀ b o,b≠S→b≠I→s.heap.get? b=some o→h'.get? b=some o)→Good n h'→R (.ok (.ret .none)) { s with heap:=h',toks:=tk }) →
   ydB (model P w) A (.builtin "set.update.loop" ⟨[.ref S,.ref I],[]⟩) R s:=by
 have ent:=ydE
 have pln:=ydF
 intro k
 induction k with
 | zero =>
  intro i s hk hi st good q
  obtain rfl:i=n:=by omega
  refine ybx ent ?_;rw [ybi pln _]
  refine yac (W.done s _ _ st fun h' tk kp => ?_)
  exact yaf (q h' tk (fun b o _ b2 e=>kp b o (by simpa using b2) e) (g1 _ _ _ good fun b o hb e=>kp b o (by simpa using hb) e))
 | succ k ih =>
  intro i s hk hi st good q
  have lt:i < n:=by omega
  refine ybx ent ?_;rw [ybi pln _]
  refine yac (W.item i s _ _ lt st fun v h1 tk1 hv st1 kp => ?_)
  have good1:Good i h1:=g1 _ _ _ good fun b o hb e=>kp b o (by simpa using hb) e
  refine yac (ya9 (g2 i { s with heap:=h1,toks:=tk1 } v _ _ lt hv good1 fun b2 h2 tk2 sb good2 => ?_))
  refine yaf ⟨yck pln _,ih (i+1) _ (by omega) lt (W.frame _ h1 h2 st1 fun b hb o e => ?_) good2 fun h3 tk3 kp3 good3 => ?_⟩
  ·exact (sb.2 b fun z=>hS (z ▸ hb)).trans e
  ·refine q h3 tk3 (fun b o b1 b2 e=>kp3 b o b1 b2 ?_) good3
   exact (sb.2 b b1).trans (kp b o (by simpa using b2) e)
end
theorem nodup_snoc {α:Type} {l:List α} {a:α}:(l ++ [a]).Nodup↔l.Nodup∧a∉l:=by
 rw [ydx]
 constructor
 ·rintro ⟨h1,_,h3⟩
  exact ⟨h1,fun z=>h3 a z a (ya4.mpr rfl) rfl⟩
 ·rintro ⟨h1,h2⟩
  exact ⟨h1,by simp,fun x hx y hy e=>h2 (by rw [ya4.mp hy] at e;exact e ▸ hx)⟩
section
variable {X:Cx}
end
section
variable {X:Cx} {K:PySem.W.Frag}
end
section
variable {X:Cx} {a b e:Expr} {ta tb te:TE} {pos:Pos}
end
end L2
namespace L2
open PySem PySem.Spec PyProof.Rows PySem.W
section
variable {prog:Program} {w:World} {A:Around} {E:Value→Shared→Prop} {s:Shared} {K:PySem.W.Frag} {x D:Addr} {ox:Obj} {od:Option Obj}
end
section
variable {X:Cx} {K:PySem.W.Frag}
end
end L2
namespace L2
open PySem PySem.Spec PyProof.Rows PySem.W PySem.Builtin PySem.Builtin.ObjectAttr
section
variable {prog:Program} {w:World} {A:Around} {K:PySem.W.Frag} {C x:Addr} {s:Shared} {R:Result→Shared→Prop} {E:Value→Shared→Prop}
end
section
variable {X:Cx} {K:PySem.W.Frag}
end
end L2
namespace L2
open PySem PySem.Spec PyProof.Rows PySem.W
section
variable {prog:Program} {w:World} {A:Around} {E:Value→Shared→Prop} {hp:Heap} {g:Array GenState} {d:Drawn} {t:Nat} {os:OsState}
variable {nm qn:Str} {C N:Addr} {bs bm:List Value} {hdct:Bool} {sn:List Str} {sub:List Value} {ab:Bool} {col:Option Bool} {dd:Option Addr} {k0 k1 k2 k3 k5:Option Value}
end
end L2
namespace L2
open PySem PySem.Spec PyProof.Rows PySem.W
section
variable {X:Cx} {CX:CXT} {k:Nat} {f C:Addr} {fd:FuncData} {ps:List Str} {sp:Sp} {E:XK} {x:Str} {p pos:Pos} {e:Expr} {es:List Expr} {t:TA}
end
section
variable {M:Model} {A:Around} {E:Value→Shared→Prop} {env:Env} {nm qn:Str} {C N:Addr} {bs bm:List Value} {hdct:Bool} {sn:List Str} {sub:List Value} {ab:Bool} {col:Option Bool} {dd:Option Addr} {k0 k1 k2 k3 k5:Option Value}
end
section
variable {P:Program} {w:World} {K:PySem.W.Frag} {mg:Str→Option Value} {base:Heap} {N:List Str} {qual:Str} {scope:Scope} {f:Addr} {cd:Value} {A:Around} {outer:List Env} {s0:Shared} {H0:Hp} {E:XK}
 {k:Nat} {f2 C:Addr} {fd:FuncData} {ps:List Str} {sp:Sp} {x:Str} {p np cpos pos:Pos} {e:Expr} {es:List Expr} {t:TA}
end
section
variable {X:Cx} {K:PySem.W.Frag}
end
end L2
namespace L2
open PySem PySem.Spec PyProof.Rows PySem.W
section
variable {K:PySem.W.Frag} {D:Addr}
end
section
variable {X:Cx} {K:PySem.W.Frag}
open Classical in
end
section
variable {X:Cx} {K:PySem.W.Frag}
end
theorem zdF:∀ {us:List Value} {ns:List Int},IntsAre us ns→Vals (ns.map V.int) us
 | _,_,.nil => .nil
 | _,_,.cons y t r => .cons ⟨t,rfl⟩ (zdF r)
theorem zc8:∀ {us:List Value} {ss:List Str},StrsAre us ss→Vals (ss.map V.str) us
 | _,_,.nil => .nil
 | _,_,.cons y t r => .cons ⟨t,rfl⟩ (zc8 r)
section
variable {X:Cx} {K:PySem.W.Frag}
theorem zcN {us:List Value} {ns:List Int} (h:IntsAre us ns):us.length=ns.length:=by
 have:=(zdF h).length
 rw [yaa] at this
 exact this.symm
theorem zcc {us:List Value} {ns:List Str} (h:StrsAre us ns):us.length=ns.length:=by
 have:=(zc8 h).length
 rw [yaa] at this
 exact this.symm
end
section
variable {prog:Program} {w:World} {A:Around} {E:Value→Shared→Prop} {s:Shared} {T:String} {r d:Addr} {n:Nat} {P:Nat→Value→Prop} {OK:Heap→Prop}
theorem ze4 {Q:List Value→Shared→Prop} (K:PySem.W.KdlSrc prog w T r d n P OK) (hh:A.handled=none) (hok:OK s.heap) (hn:n≤yaW)
  (hQ:∀ h' tk acc,s.heap.objs.size≤h'.objs.size→(∀ b o,s.heap.get? b=some o→h'.get? b=some o)→ItemsOf P acc n→Q acc.toList { s with heap:=h',toks:=tk }):wpAny (model prog w) A (collect (.ref r)) Q E s:=by
 have hlt:=K.there _ hok
 unfold collect
 refine yac (yem (ybx yey ?_))
 rw [ybi yez _]
 show wpAny _ A.in1 (newList [] >>= fun l=>again (.builtin "list.__iadd__" ⟨[l,.ref r],[]⟩)) _ _ s
 refine yac (ybu ?_)
 refine yaf ⟨yck yc6 _,ybx F.entry_list_iadd ?_⟩
 rw [ybi yc6 _]
 have hS:(s.heap.push { cls := .type "list",data := .seq ([]:List Value).toArray }).get? s.heap.objs.size=some { cls := .type "list",data := .seq #[] }:=yai _ rfl
 show wpAny _ A.in1 (ybD (.ref s.heap.objs.size) (.ref r) (.ref s.heap.objs.size)) _ _ _
 let R:Result→Shared→Prop:=fun res s'=>∃ (h':Heap) (tk:Nat) (acc:Array Value) (c:Nat),res = .ok (.ret (.ref s.heap.objs.size))∧s' = { s with heap:=h',toks:=tk }∧(∀ b o,s.heap.get? b=some o→h'.get? b=some o)∧h'.get? s.heap.objs.size=some { cls := .type "list",dict:=none,data := .seq acc c,slots := #[] }∧ItemsOf P acc n
 refine ycb (PySem.W.kdl_extend (A:=A) (R:=R) (s:={ s with heap:=s.heap.push { cls := .type "list",data := .seq ([]:List Value).toArray } }) K hh (K.keep _ _ hok fun b _ o e=>yad _ e) s.heap.objs.size (ycc hlt.1) (ycc hlt.2) (.ref s.heap.objs.size) _ hS (fun h' tk acc' c' hk hS' hacc=>⟨h',tk,acc',c',rfl,rfl,fun b o e=>hk b o (yaF (yak e)) (yad _ e),hS',hacc⟩) hn) (fun f s' hf => ?_) (fun e s' he => ?_)
 ·cases f with
  | done fl =>
   obtain ⟨h',tk,acc,c,e,rfl,kp,hS',it⟩:=hf
   cases e
   exact yac (yeN hS' (yaf (hQ h' tk acc (ybs (yak hS')) kp it)))
  | again c' =>
   refine ⟨hf.1,ycE hf.2 fun res s2 hr => ?_⟩
   obtain ⟨h',tk,acc,c,e,rfl,kp,hS',it⟩:=hr
   cases e
   exact yac (yeN hS' (yaf (hQ h' tk acc (ybs (yak hS')) kp it)))
 ·obtain ⟨_,_,_,_,z,_⟩:=he
  cases z
theorem zbo {h:Heap} {vs:List Value} {out:Array Value} {b:Addr} {o:Obj} (hb:h.get? b=some o):(sortedHeap (h.push (ydj "list" vs.toArray 0)) h.objs.size vs out).get? b=some o:=by
 have hlt:=yak hb
 rw [sortedHeap_old (yaF hlt) (by rw [size_push'];exact ycg hlt)]
 exact yad _ hb
theorem zep {Q:Value→Shared→Prop} {ns:List Int} (K:PySem.W.KdlSrc prog w T r d n P OK) (hh:A.handled=none) (hok:OK s.heap) (hn:n≤yaW) (hI:∀ acc:Array Value,ItemsOf P acc n→IntsAre acc.toList ns) (h64:ns.length < 64)
  (h:∀ (a:Addr) (h':Heap) (tk e:Nat) (out:Array Value) (ms:List Int),s.heap.objs.size≤a→(∀ b o,s.heap.get? b=some o→h'.get? b=some o)→h'.get? a=some (ydj "list" out e)→IntsAre out.toList ms→ms.Perm ns→ms.Pairwise (· ≤ ·)→Q (.ref a) { s with heap:=h',toks:=tk }) :
  wpAny (model prog w) A (call (.builtin "sorted") [.ref r]) Q E s:=by
 refine ycu kind_sorted yfj yfk (yfl _) ?_
 unfold Builtin.«sorted»
 refine yac (m:=checkCount "sorted" 1 1 _) (yaf ?_)
 refine yac (ze4 K hh hok hn fun h1 tk acc sz kp it => ?_)
 have hA:=hI acc it
 have l64:acc.toList.length < 64:=by rw [zcN hA];exact h64
 refine yac (yd1 ?_)
 have hoL:(h1.push (ydj "list" acc.toList.toArray 0)).get? h1.objs.size=some (ydj "list" acc.toList.toArray 0):=yai _ rfl
 refine yac (ya9 (ybq yeo ⟨_,hoL,rfl⟩ yd2 (list_sort_tree hoL hA l64 fun out ms a1 a2 a3=>⟨_,rfl,?_⟩) (yep _)))
 obtain ⟨e,he⟩:=sortedHeap_at (out:=out) hoL
 exact yaf ⟨_,rfl,h h1.objs.size _ tk e out ms sz (fun b o z=>zbo (kp b o z)) he a1 a2 a3⟩
theorem zeY {Q:Value→Shared→Prop} {ss:List Str} (K:PySem.W.KdlSrc prog w T r d n P OK) (hh:A.handled=none) (hok:OK s.heap) (hn:n≤yaW) (hI:∀ acc:Array Value,ItemsOf P acc n→StrsAre acc.toList ss) (h64:ss.length < 64)
  (h:∀ (a:Addr) (h':Heap) (tk e:Nat) (out:Array Value) (ms:List Str),s.heap.objs.size≤a→(∀ b o,s.heap.get? b=some o→h'.get? b=some o)→h'.get? a=some (ydj "list" out e)→StrsAre out.toList ms→ms.Perm ss→sortedS ms=true→Q (.ref a) { s with heap:=h',toks:=tk }) :
  wpAny (model prog w) A (call (.builtin "sorted") [.ref r]) Q E s:=by
 refine ycu kind_sorted yfj yfk (yfl _) ?_
 unfold Builtin.«sorted»
 refine yac (m:=checkCount "sorted" 1 1 _) (yaf ?_)
 refine yac (ze4 K hh hok hn fun h1 tk acc sz kp it => ?_)
 have hA:=hI acc it
 have l64:acc.toList.length < 64:=by rw [zcc hA];exact h64
 refine yac (yd1 ?_)
 have hoL:(h1.push (ydj "list" acc.toList.toArray 0)).get? h1.objs.size=some (ydj "list" acc.toList.toArray 0):=yai _ rfl
 refine yac (ya9 (ybq yeo ⟨_,hoL,rfl⟩ yd2 (list_sort_treeK strKind_oneLt hoL hA.keysOf (fun v₁ v₂ rest e=>keyKind_strs (by rw [← e];exact hA)) l64 fun st' hp hs=>⟨_,rfl,?_⟩) (yep _)))
 obtain ⟨ms,a1,a2,a3⟩:=sorted_out_str hA hp hs
 obtain ⟨e,he⟩:=sortedHeap_at (out:=(arrOf st').map (·.2)) hoL
 exact yaf ⟨_,rfl,h h1.objs.size _ tk e _ ms sz (fun b o z=>zbo (kp b o z)) he a1 a2 a3⟩
end
section
variable {X:Cx}
theorem zgw {kvs:List (Key×V)} {vs:List (Key×Value)} (h:KV kvs vs):vs.map (·.1)=kvs.map (·.1):=by
 induction h with
 | nil=>rfl
 | cons r _ ih=>rw [yan,yan,ih,r.1]
theorem zjD {vs:List (Key×Value)}:∀ {us:List Value} {ns:List Int},vs.map (·.1)=ns.map (ycU:Int→Key)→us.length=vs.length→(∀ (i:Nat) (v:Value),us[i]? = some v→∃ k x,vs[i]? = some (k,x)∧keyIs k v=true)→IntsAre us ns:=by
 induction vs with
 | nil =>
  intro us ns e l _
  cases ns with
  | nil=>cases us with
   | nil=>exact .nil
   | cons _ _=>cases l
  | cons _ _=>cases e
 | cons p vs ih =>
  intro us ns e l h
  cases ns with
  | nil=>cases e
  | cons n ns =>
   cases us with
   | nil=>cases l
   | cons u us =>
    rw [yan,yan] at e
    injection e with e1 e2
    obtain ⟨k,x,ek,hk⟩:=h 0 u rfl
    have ek:p=(k,x):=yas ek
    rw [ek] at e1
    have e1:k=ycU n:=e1
    subst e1
    rcases zaW hk with ⟨i,t,a,rfl⟩ | ⟨y,t,a,rfl⟩
    ·cases a
     exact .cons n t (ih e2 (ycH l) fun i v hv=>h (i+1) v hv)
    ·cases a
theorem zhO {vs:List (Key×Value)}:∀ {us:List Value} {ns:List Str},vs.map (·.1)=ns.map (ycC:Str→Key)→us.length=vs.length→(∀ (i:Nat) (v:Value),us[i]? = some v→∃ k x,vs[i]? = some (k,x)∧keyIs k v=true)→StrsAre us ns:=by
 induction vs with
 | nil =>
  intro us ns e l _
  cases ns with
  | nil=>cases us with
   | nil=>exact .nil
   | cons _ _=>cases l
  | cons _ _=>cases e
 | cons p vs ih =>
  intro us ns e l h
  cases ns with
  | nil=>cases e
  | cons n ns =>
   cases us with
   | nil=>cases l
   | cons u us =>
    rw [yan,yan] at e
    injection e with e1 e2
    obtain ⟨k,x,ek,hk⟩:=h 0 u rfl
    have ek:p=(k,x):=yas ek
    rw [ek] at e1
    have e1:k=ycC n:=e1
    subst e1
    rcases zaW hk with ⟨i,t,a,rfl⟩ | ⟨y,t,a,rfl⟩
    ·cases a
    ·cases a
     exact .cons n t (ih e2 (ycH l) fun i v hv=>h (i+1) v hv)
theorem zgp (hc:X.calm=true):CallR X (.builtin "sorted") (fun xs H Q=>∃ (p:Addr) (kvs:List (Key×V)) (ns:List Int),xs = [.ref p]∧H p=some (.dK kvs)∧kvs.map (·.1)=ns.map (ycU:Int→Key)∧ns.length < 64∧∀ (l:Addr) (ms:List Int),H l=none→ms.Perm ns→ms.Pairwise (· ≤ ·)→Q (.ref l) (upd H l (.lst (ms.map V.int)))):=by
 intro pins s σ H xs us Q I r h
 obtain ⟨p,kvs,ns,rfl,hp,ek,h64,q⟩:=h
 obtain ⟨u,rfl,ru⟩:=vals1 r
 cases ru
 obtain ⟨hz,lo,vs,kv,hd0⟩:=I.hok p _ hp
 obtain ⟨ep,hd⟩:=hd0.dictAt
 have lkv:vs.length≤yaW:=by have:=yaz kv;omega
 have ev:=zgw kv
 refine zep (ns:=ns) (PySem.W.kdl_dict (knd:=za5 X.prog X.w) (ep:=ep) lo) (I.ok.hd hc) hd lkv (fun acc it => ?_) h64 fun a h' tk e out ms sz kp he hm pm so => ?_
 ·exact zjD (ev.trans ek) (by rw [yaO];exact it.1) fun i v hv=>it.2 i v (by rw [← ybI];exact hv)
 ·have lm:=zcN hm
  have lp:=pm.length_eq
  refine ⟨.ref a,_,I.laid (t':=tk) (o := .lst (ms.map V.int)) kp sz ?_,rfl,q _ ms (I.hok.fresh sz) pm so⟩
  exact ⟨by rw [yaa];exact zac (by omega),out.toList,e,zdF hm,he⟩
theorem zf4 (hc:X.calm=true):CallR X (.builtin "sorted") (fun xs H Q=>∃ (p:Addr) (kvs:List (Key×V)) (ns:List Str),xs = [.ref p]∧H p=some (.dK kvs)∧kvs.map (·.1)=ns.map (ycC:Str→Key)∧ns.length < 64∧∀ (l:Addr) (ms:List Str),H l=none→ms.Perm ns→sortedS ms=true→Q (.ref l) (upd H l (.lst (ms.map V.str)))):=by
 intro pins s σ H xs us Q I r h
 obtain ⟨p,kvs,ns,rfl,hp,ek,h64,q⟩:=h
 obtain ⟨u,rfl,ru⟩:=vals1 r
 cases ru
 obtain ⟨hz,lo,vs,kv,hd0⟩:=I.hok p _ hp
 obtain ⟨ep,hd⟩:=hd0.dictAt
 have lkv:vs.length≤yaW:=by have:=yaz kv;omega
 have ev:=zgw kv
 refine zeY (ss:=ns) (PySem.W.kdl_dict (knd:=za5 X.prog X.w) (ep:=ep) lo) (I.ok.hd hc) hd lkv (fun acc it => ?_) h64 fun a h' tk e out ms sz kp he hm pm so => ?_
 ·exact zhO (ev.trans ek) (by rw [yaO];exact it.1) fun i v hv=>it.2 i v (by rw [← ybI];exact hv)
 ·have lm:=zcc hm
  have lp:=pm.length_eq
  refine ⟨.ref a,_,I.laid (t':=tk) (o := .lst (ms.map V.str)) kp sz ?_,rfl,q _ ms (I.hok.fresh sz) pm so⟩
  exact ⟨by rw [yaa];exact zac (by omega),out.toList,e,zc8 hm,he⟩
end
theorem zfX (t:SetTable) (n:Nat):(t.orStandIn n).led=t.led∧((t.orStandIn n).plain=true→t.plain=true):=by
 unfold SetTable.orStandIn
 split
 ·exact ⟨rfl,id⟩
 ·exact ⟨rfl,fun z=>nomatch z⟩
theorem zfy (t:SetTable) (es:Array (Int×Value)) (h:Int) (x:Value):(layNew t es h x).2.1.led=t.led∧((layNew t es h x).2.1.plain=true→t.plain=true):=by
 unfold layNew
 split
 ·rename_i slot wd _
  exact zfX (t.put slot).1 _
 ·exact ⟨rfl,fun z=>nomatch z⟩
theorem zd8 (t:SetTable) (es:Array (Int×Value)) (n:Nat):(ydN t es n).2.1.led=t.led∧((ydN t es n).2.1.plain=true→t.plain=true):=by
 unfold ydN
 split
 ·rename_i t' order e
  have el:t'.led=t.led∧t'.plain=t.plain:=by
   unfold SetTable.relaid SetTable.laid at e
   cases hl:SetTable.layClean (SetTable.sizeAbove n - 1) (es.map (·.1)) with
   | none=>rw [hl] at e;cases e
   | some owner =>
    rw [hl] at e
    have e:=yas e
    rw [← (Prod.mk.inj e).1]
    exact ⟨rfl,rfl⟩
  dsimp only
  split
  ·exact ⟨el.1,fun z=>by rw [← el.2];exact z⟩
  ·exact ⟨rfl,fun z=>nomatch z⟩
 ·exact ⟨rfl,fun z=>nomatch z⟩
def ledBy (w:World):Bool := !(w.params.followText "set-order")
structure TxSet (P:Program) (w:World) (h:Heap) (a:Addr) (ks:List Str):Prop where
 ex:∃ (o:Obj) (es:Array (Int×Value)) (ep:Nat) (t:SetTable) (ord:List Str),h.get? a=some o∧o.ExactSet∧o.data = .set es ep t∧ElemsOf (yby P w) es.toList∧StrsAre (es.toList.map (·.2)) ord∧ord.Perm ks∧es.size < ybZ∧t.fits es.size=true∧t.led=ledBy w∧(ks ≠ []→t.plain=false)
 nd:ks.Nodup
theorem str_is {P:Program} {w:World} {k:Str} {v:Value} (h:(yby P w).is k v=true):∃ t,v = .str k t:=Value.isStrOf_shape h
theorem is_str {P:Program} {w:World} (k:Str) (t:Tok):(yby P w).is k (.str k t)=true:=by
 show Value.isStrOf k (.str k t)=true
 simp [Value.isStrOf]
theorem zfa:∀ {vs vs':List Value},vs.Perm vs'→∀ {ks:List Str},StrsAre vs' ks→∃ ks',StrsAre vs ks'∧ks'.Perm ks:=by
 intro vs vs' p
 induction p with
 | nil=>intro ks h;exact ⟨ks,h,.refl _⟩
 | cons x _ ih =>
  intro ks h
  cases h with
  | cons k t r =>
   obtain ⟨ks',h1,h2⟩:=ih r
   exact ⟨k :: ks',.cons k t h1,h2.cons k⟩
 | swap x y l =>
  intro ks h
  cases h with
  | cons k t r =>
   cases r with
   | cons k2 t2 r2=>exact ⟨k2 :: k :: _,.cons k2 t2 (.cons k t r2),.swap k k2 _⟩
 | trans _ _ ih1 ih2 =>
  intro ks h
  obtain ⟨k1,a1,a2⟩:=ih2 h
  obtain ⟨k2,b1,b2⟩:=ih1 a1
  exact ⟨k2,b1,b2.trans a2⟩
theorem zhd:∀ {vs:List Value} {ks:List Str} (k:Str) (t:Tok),StrsAre vs ks→StrsAre (vs ++ [.str k t]) (ks ++ [k])
 | _,_,k,t,.nil => .cons k t .nil
 | _,_,k,t,.cons k' t' r => .cons k' t' (zhd k t r)
section
variable {P:Program} {w:World} {A:Around} {E:Value→Shared→Prop} {s:Shared}
theorem zjf {h:Heap} {a:Addr} {o:Obj} {es es':Array (Int×Value)} {ep:Nat} {t t':SetTable} {ks ord:List Str} (ho:h.get? a=some o) (hex:o.ExactSet) (hd:o.data = .set es ep t) (hel:ElemsOf (yby P w) es'.toList) (ha:StrsAre (es'.toList.map (·.2)) ord) (hp:ord.Perm ks) (nd:ks.Nodup)
  (hb:es'.size < ybZ) (hf:t'.fits es'.size=true) (hl:t'.led=ledBy w) (hpl:ks ≠ []→t'.plain=false) :
  (h.update a (yc5 es' t')).get? a=some { o with data := .set es' (ep+1) t' }∧TxSet P w (h.update a (yc5 es' t')) a ks:=by
 have hg:(h.update a (yc5 es' t')).get? a=some { o with data := .set es' (ep+1) t' }:=by
  have:=ybS (yc5 es' t') ho (by rw [yfF es' t' hd];rfl)
  rw [yfF es' t' hd] at this;exact this
 exact ⟨hg,⟨_,es',ep+1,t',ord,hg,hex,rfl,hel,ha,hp,hb,hf,hl,hpl⟩,nd⟩
theorem tx_tail {g:Bool→Sem Unit} (hg:∀ (b:Bool) (s₁:Shared) (Q':Unit→Shared→Prop),Q' () s₁→wpAny (model P w) A (g b) Q' E s₁)
  {a:Addr} {o:Obj} {es es1:Array (Int×Value)} {ep:Nat} {t t2:SetTable} {ks ord:List Str} (ho:s.heap.get? a=some o) (hex:o.ExactSet) (hd:o.data = .set es ep t) (hel1:ElemsOf (yby P w) es1.toList) (ha:StrsAre (es1.toList.map (·.2)) ord) (hp:ord.Perm ks) (nd:ks.Nodup)
  (hb1:es1.size < ybZ) (hf2:t2.fits es1.size=true) (hl:t2.led=ledBy w) (hpl:t2.plain=false) {wasDummy:Bool} {R:Option Bool→Shared→Prop}
  (h:∀ h',Heap.SameBut a s.heap h'→TxSet P w h' a ks→R (some true) { s with heap:=h' }) :
  wpAny (model P w) A (do
    storeSet a es1 t2
    if (!wasDummy&&t2.tooFull)=true then do
      g (ydN t2 es1 (ybB es1.size)).2.2
      storeSet a (ydN t2 es1 (ybB es1.size)).1 (ydN t2 es1 (ybB es1.size)).2.1
      pure (some true)
     else pure (some true)) R E s:=by
 refine yac (ydu ho hd ?_ (yeh hb1))
 obtain ⟨ho1,hS1⟩:=zjf (P:=P) (w:=w) ho hex hd hel1 ha hp nd hb1 hf2 hl (fun _=>hpl)
 have hsb1:=ydc s.heap a (yc5 es1 t2)
 split
 ·have pp:=relayAll_perm t2 es1 (ybB es1.size)
  have hfr:=relayAll_fits t2 es1 (ybB es1.size)
  obtain ⟨fl,fp⟩:=zd8 t2 es1 (ybB es1.size)
  generalize hRl:ydN t2 es1 (ybB es1.size)=Rl at pp hfr fl fp ⊢
  obtain ⟨es2,t3,gave2⟩:=Rl
  dsimp only at pp hfr fl fp ⊢
  have hel2:ElemsOf (yby P w) es2.toList:=hel1.perm pp
  obtain ⟨ord2,ha2,hp2⟩:=zfa (pp.map (·.2)) ha
  have hsz:es2.size=es1.size:=by rw [← yaO,pp.length_eq,yaO]
  have hb2:es2.size < ybZ:=by rw [hsz];exact hb1
  refine yac (hg _ _ _ ?_)
  refine yac (ydu ho1 rfl ?_ (yeh hb2))
  have pl3:t3.plain=false:=by
   cases e:t3.plain
   ·rfl
   ·rw [fp e] at hpl;cases hpl
  obtain ⟨_,hS2⟩:=zjf (P:=P) (w:=w) ho1 hex rfl hel2 ha2 (hp2.trans hp) nd hb2 hfr (fl.trans hl) (fun _=>pl3)
  exact yaf (h _ (hsb1.trans (ydc _ a _)) hS2)
 ·exact yaf (h _ hsb1 hS1)
theorem ziz:∀ {vs:List Value} {ks:List Str},StrsAre vs ks→∀ k,k∈ks↔∃ t,ydV k t∈vs
 | _,_,.nil,k=>⟨(fun h=>nomatch h),(by rintro ⟨_,h⟩;exact nomatch h)⟩
 | _,_,.cons k' t' r,k=>by
  rw [yaN,ziz r k]
  constructor
  ·rintro (rfl | ⟨t,h⟩)
   ·exact ⟨t',yat⟩
   ·exact ⟨t,yap _ h⟩
  ·rintro ⟨t,h⟩
   rcases yaN.mp h with e | h
   ·cases e
    exact .inl rfl
   ·exact .inr ⟨t,h⟩
theorem tx_add {a:Addr} {ks:List Str} {k:Str} {tok:Tok} {Q:Bool→Shared→Prop} (hS:TxSet P w s.heap a ks) (hroom:ks.length+1 < ybZ)
  (h:∀ b h',Heap.SameBut a s.heap h'→TxSet P w h' a (if k∈ks then ks else ks ++ [k])→Q b { s with heap:=h' }) :
  wpAny (model P w) A (yew a (.str k tok) ((yby P w).hash k)) Q E s:=by
 obtain ⟨⟨o,es,ep,t,ord,ho,hex,hd,hel,ha,hp,hb,hf,hl,hpl⟩,nd⟩:=hS
 have hkey:=is_str (P:=P) (w:=w) k tok
 have hsc:(ydV k tok).scannable=true:=rfl
 have lo:es.size=ks.length:=by
  have l1:=zcc ha
  rw [yaa,yaO] at l1
  rw [l1,hp.length_eq]
 have hmem:k∈ks↔∃ e∈es.toList,(yby P w).is k e.2=true:=by
  rw [← hp.mem_iff,ziz ha k]
  constructor
  ·rintro ⟨t,ht⟩
   obtain ⟨e,he,ee⟩:=yaG.mp ht
   exact ⟨e,he,by rw [ee];exact is_str k t⟩
  ·rintro ⟨e,he,hk⟩
   obtain ⟨t,et⟩:=str_is hk
   exact ⟨t,yaG.mpr ⟨e,he,et⟩⟩
 unfold yew setAddHashedIn
 refine ya9 (yac (ybl ho hd hf ?_))
 dsimp only
 rw [byScan_of hsc hb hel]
 simp only [↓reduceIte]
 unfold setAddByScan
 refine yac ?_
 refine yac (ycr ?_)
 refine yac (wpAny_setScan_of hkey ho hd hf hel ?_)
 cases hr:List.findIdx? (fun e=>(yby P w).is k e.2) es.toList with
 | some j =>
  dsimp only
  obtain ⟨hj,hpj,_⟩:=yd3.mp hr
  have hk:k∈ks:=hmem.mpr ⟨es.toList[j],yam hj,hpj⟩
  refine yaf (yaf ?_)
  have e:s = { s with heap:=s.heap }:=by cases s;rfl
  have:=h false s.heap (Heap.SameBut.refl a s.heap) (by rw [if_pos hk];exact ⟨⟨o,es,ep,t,ord,ho,hex,hd,hel,ha,hp,hb,hf,hl,hpl⟩,nd⟩)
  rw [e]
  exact this
 | none =>
  dsimp only
  have hk:k∉ks:=fun z=>by
   obtain ⟨e,he,hpe⟩:=hmem.mp z
   have:=List.findIdx?_eq_none_iff.mp hr e he
   rw [hpe] at this
   exact Bool.noConfusion this
  have hgw:∀ (b:Bool) {s₁:Shared} {Q':Unit→Shared→Prop},Q' () s₁→wpAny (model P w) A (match b with | true=>rule "set.scan.the-table-gave-way" | false=>pure ()) Q' E s₁ :=
   fun b s₁ Q' hq=>by cases b <;> first | exact yaf hq | exact ycr hq
  have hperm:=layNew_perm t es ((yby P w).hash k) (.str k tok)
  have hfits:=layNew_fits t es ((yby P w).hash k) (.str k tok)
  obtain ⟨fl,fp⟩:=zfy t es ((yby P w).hash k) (.str k tok)
  generalize hL:layNew t es ((yby P w).hash k) (.str k tok)=L at hperm hfits fl fp ⊢
  obtain ⟨es1,t1,wasDummy,gave⟩:=L
  dsimp only at hperm hfits fl fp ⊢
  rw [yfJ] at hperm
  have hel1:ElemsOf (yby P w) es1.toList:=(hel.push hkey hsc).perm hperm
  have ha1:StrsAre ((es.toList ++ [((yby P w).hash k,ydV k tok)]).map (·.2)) (ord ++ [k]):=by
   rw [yah]
   exact zhd k tok ha
  obtain ⟨ord1,hb1,hp1⟩:=zfa (hperm.map (·.2)) ha1
  have hz:es1.size < ybZ:=by rw [← yaO,hperm.length_eq,yao,yaO,lo];exact hroom
  have pk:ord1.Perm (ks ++ [k]):=hp1.trans (hp.append_right [k])
  have ndk:(ks ++ [k]).Nodup:=nodup_snoc.mpr ⟨nd,hk⟩
  have fin:∀ h',Heap.SameBut a s.heap h'→TxSet P w h' a (ks ++ [k])→Q true { s with heap:=h' }:=fun h' sb hT=>h true h' sb (by rw [if_neg hk];exact hT)
  refine yac (hgw _ ?_)
  split
  ·refine yac ?_
   rw [hashByValue_scannable 8 hsc]
   refine yaf ?_
   show wpAny (model P w) A _ _ _ _
   rw [if_neg (show ¬ plainKind (ydV k tok)=true from fun z=>nomatch z)]
   refine tx_tail ?_ ho hex hd hel1 hb1 pk ndk hz (SetTable.fits_plain_off hfits) (fl.trans hl) rfl ?_
   ·intro b s₁ Q' hq;cases b <;> first | exact yaf hq | exact ycr hq
   ·intro h' hsb hT;dsimp only;exact yaf (fin h' hsb hT)
  ·rename_i hpn
   refine yac (yaf ?_)
   simp only [↓reduceIte]
   refine tx_tail ?_ ho hex hd hel1 hb1 pk ndk hz hfits (fl.trans hl) (by simpa using hpn) ?_
   ·intro b s₁ Q' hq;cases b <;> first | exact yaf hq | exact ycr hq
   ·intro h' hsb hT;dsimp only;exact yaf (fin h' hsb hT)
end
section
variable {P:Program} {w:World} {A:Around} {E:Value→Shared→Prop} {s:Shared}
theorem zgd (a:Value) {Q₁:Value→Shared→Prop} (h:Q₁ (.ref s.heap.objs.size) { s with heap:=s.heap.push (set0 (ledBy w)) }) :
  ydB (model P w) A (.call (.builtin "set.__new__") ⟨[.type "set",a],[]⟩) (wants Q₁ E) s:=by
 refine codeAny_of_tree ?_
 show wpAny _ A.in1 (do checkBuiltinCall "set.__new__" ⟨[.type "set",a],[]⟩;again (.builtin "set.__new__" ⟨[.type "set",a],[]⟩)) _ _ s
 refine yac (wpAny_of_eq (F.newCall_set_1 a) (yaf ⟨yck F.plain_set_new _,ybx F.entry_set_new ?_⟩))
 rw [ybi F.plain_set_new _]
 unfold Builtin.«set.__new__» Builtin.Frozenset.newClass
 have hsub:=sub_set_self
 obtain ⟨hp,g,d,tk,os⟩:=s
 dsimp only
 wp_walk
 refine ycn (yaf ?_)
 dsimp only
 simp only [newObj]
 refine yac (wpAny_alloc (yaf ?_))
 exact yaf h
theorem zd6 {T:String} {l:Addr} {n:Nat} {Pv:Nat→Value→Prop} {Q:Value→Shared→Prop} (hh:A.handled=none)
  (f1:isSubtype (.type T) (.type "set")=pure false) (f2:isSubtype (.type T) (.type "frozenset")=pure false) (f3:(ybQ T == ybQ "dict")=false)
  (ty:∀ s':Shared,(∀ b o,s.heap.get? b=some o→s'.heap.get? b=some o)→s'.TypeIs (.ref l) T) (lt:l < s.heap.objs.size)
  (it:∀ (A':Around) (s':Shared),A'.handled=none→(∀ b o,s.heap.get? b=some o→s'.heap.get? b=some o)→∃ (oI:Obj) (St:Nat→Heap→Prop),
   (∀ (A2:Around) (E2:Value→Shared→Prop) (Q2:Value→Shared→Prop),Q2 (.ref s'.heap.objs.size) { s' with heap:=s'.heap.push oI }→wpAny (model P w) A2 (pyIter (.ref l)) Q2 E2 s') ∧
    Walks P w A' s'.heap.objs.size [s'.heap.objs.size,l] [s'.heap.objs.size] n Pv St∧St 0 (s'.heap.push oI))
  (Good:Nat→Heap→Prop) (g0:∀ (oI:Obj),Good 0 ((s.heap.push (set0 (ledBy w))).push oI))
  (g1:∀ i h h',Good i h→(∀ b o,b≠s.heap.objs.size+1→h.get? b=some o→h'.get? b=some o)→Good i h')
  (g2:∀ (i:Nat) (s2:Shared) (v:Value) (Q:Bool→Shared→Prop) (E':Value→Shared→Prop),i < n→Pv i v→Good i s2.heap→(∀ b h' tk,Heap.SameBut s.heap.objs.size s2.heap h'→Good (i+1) h'→Q b { s2 with heap:=h',toks:=tk }) →
   wpAny (model P w) A.in1.in1.in1 (setAdd s.heap.objs.size v) Q E' s2)
  (q:∀ h' tk,(∀ b o,s.heap.get? b=some o→h'.get? b=some o)→Good n h'→Q (.ref s.heap.objs.size) { s with heap:=h',toks:=tk }) :
  wpAny (model P w) A (call (.type "set") [.ref l]) Q E s:=by
 have cs:=F.called_set
 obtain ⟨c,tl,mro⟩:=cs.mro
 have made:=cs.made
 have sub:=cs.sub
 refine wpAny_call (codeAny_of_tree ?_)
 show wpAny _ _ (callAny (.type "set") _) _ _ _
 refine yaf ⟨Code.quiet_builtin _ (by decide +kernel),ybx F.entry_type_call ?_⟩
 rw [Around.under_plain (weight_type_call_type "set" [.ref l] []) rfl]
 have c1:=cs.notType
 have c2:=cs.canCreate
 have c3:=F.typeCall_set_1 (.ref l)
 repeat (any_goals (first | assumption | wp_step))
 refine ycE (zgd (.ref l) (E:=E) (Q₁:=fun x s₁=>x = .ref s.heap.objs.size∧s₁ = { s with heap:=s.heap.push (set0 (ledBy w)) }) ⟨rfl,rfl⟩) fun r s₁ hr => ?_
 cases r with
 | error e=>exact hr
 | ok fl =>
  cases fl with
  | ret x =>
   obtain ⟨rfl,rfl⟩:=hr
   generalize hled:ledBy w=led at g0 ⊢
   have hS:(s.heap.push (set0 led)).get? s.heap.objs.size=some (set0 led):=yai _ rfl
   have tS:Shared.TypeIs { s with heap:=s.heap.push (set0 led) } (.ref s.heap.objs.size) "set":=⟨_,hS,rfl⟩
   have i1:=cs.init.lookup
   have i2:=cs.init.bind (.ref s.heap.objs.size)
   repeat (any_goals (first | assumption | wp_step))
   refine ycE (codeAny_call_builtin (R:=wants (fun r s₂=>r = .none∧∃ h' tk,s₂ = { s with heap:=h',toks:=tk }∧Good n h'∧(∀ b o,s.heap.get? b=some o→h'.get? b=some o)) E)
    cs.init.plain F.entry_set_init (check_set_init_1 tS ?_)) fun r₂ s₂ hr₂ => ?_
   ·have ext:∀ b o,s.heap.get? b=some o→(s.heap.push (set0 led)).get? b=some o:=fun b o e=>yad _ e
    have tl:=ty { s with heap:=s.heap.push (set0 led) } ext
    have h3:A.in1.in1.in1.handled=none:=by simp [hh]
    obtain ⟨oI,St,go,W,st⟩:=it A.in1.in1.in1 { s with heap:=s.heap.push (set0 led) } h3 ext
    have sz:(s.heap.push (set0 led)).objs.size=s.heap.objs.size+1:=ybd ..
    unfold Builtin.«set.__init__» noKeywords Builtin.Frozenset.updateFrom
    generalize hPI:pyIter=PI
    wp_walk
    subst hPI
    refine go _ _ _ ?_
    refine yac (yem ?_)
    dsimp only at W st
    refine loop_setB (A:=A.in1.in1) W (fun z => ?_) Good (fun i h h' g k=>g1 i h h' g fun b o hb e=>k b o (by rw [sz];exact hb) e) g2 (n - 0) 0 _ (by omega) (ya2 _) st (g0 oI) fun h' tk kp good => ?_
    ·rcases yaN.mp z with z | z
     ·rw [sz] at z
      exact absurd z (yaF (ybh _))
     ·exact absurd (ya4.mp z) (ycc lt)
    ·refine yaf ?_
     refine yaf ⟨rfl,h',tk,rfl,good,fun b o e => ?_⟩
     have bl:=yak e
     refine kp b o (yaF bl) ?_ (yad _ (ext b o e))
     rw [sz]
     exact yaF (ycg bl)
   ·cases r₂ with
    | error e=>exact hr₂
    | ok fl₂ =>
     cases fl₂ with
     | ret r =>
      obtain ⟨rfl,h',tk,rfl,good,kp⟩:=hr₂
      repeat (any_goals (first | assumption | wp_step))
      exact q _ _ kp good
     | _=>exact hr₂.elim
  | _=>exact hr.elim
end
def txO (P:Program) (w:World) (a:Addr) (ks:List Str):HO := .ext fun h=>TxSet P w h a ks
theorem TxSet.keeps {P:Program} {w:World} {h h':Heap} {a:Addr} {ks:List Str} (x:TxSet P w h a ks) (k:∀ o,h.get? a=some o→h'.get? a=some o):TxSet P w h' a ks:=by
 obtain ⟨⟨o,es,ep,t,ord,ho,r⟩,nd⟩:=x
 exact ⟨⟨o,es,ep,t,ord,k _ ho,r⟩,nd⟩
theorem txO_ok {P:Program} {w:World} {H:Hp} {h:Heap} {a:Addr} {ks:List Str} (x:TxSet P w h a ks):ObjOk P w H h a (txO P w a ks):=by
 obtain ⟨⟨o,es,ep,t,ord,ho,r⟩,nd⟩:=id x
 exact ⟨x,⟨o,ho⟩,fun h1 h2 y k=>y.keeps fun o e=>k _ e⟩
section
variable {X:Cx}
def zcd:List Str→List Str→List Str
 | acc,[]=>acc
 | acc,x :: r=>zcd (if x∈acc then acc else acc ++ [x]) r
theorem once_snoc (ys:List Str) (y:Str):∀ acc,zcd acc (ys ++ [y])=(if y∈zcd acc ys then zcd acc ys else zcd acc ys ++ [y]):=by
 induction ys with
 | nil=>intro acc;rfl
 | cons x ys ih=>intro acc;exact ih _
theorem zgD (hc:X.calm=true):CallR X (.type "set") (fun xs H Q=>∃ (p:Addr) (ys:List Str),xs = [.ref p]∧SqL X.K H p (ys.map V.str)∧ys.length≤1000∧∀ l,H l=none→Q (.ref l) (upd H l (txO X.prog X.w l (zcd [] ys)))):=by
 intro pins s σ H xs us Q I r h
 obtain ⟨p,ys,rfl,hq,hy,q⟩:=h
 obtain ⟨u,rfl,rx⟩:=vals1 r
 obtain rfl:u=yaD p:=rx
 obtain ⟨its,rv,pl,hz⟩:=I.list hq
 have len:its.length=ys.length:=by rw [← rv.length,yaa]
 have il:=pl.isList
 have lt:p < s.heap.objs.size:=let ⟨o,ho,_⟩:=il;yak ho
 have keepL:∀ {h':Heap},(∀ b o,s.heap.get? b=some o→h'.get? b=some o)→h'.IsList p its.toArray:=fun {h'} k=>let ⟨o,ho,r⟩:=il;⟨o,k _ _ ho,r⟩
 let Good:Nat→Heap→Prop:=fun i h=>TxSet X.prog X.w h s.heap.objs.size (zcd [] (ys.take i))∧(zcd [] (ys.take i)).length≤i
 refine zd6 (T := "list") (l:=p) (n:=ys.length) (Pv:=fun i v=>its.toArray[i]? = some v) (I.ok.hd hc) yeE ydz (by decide) (fun s' k=>let ⟨o,ho,hcl,_⟩:=keepL k;⟨o,ho,hcl⟩) lt
  (fun A' s' hh k => ?_) Good (fun oI => ?_) (fun i h h' g k => ?_) (fun i s2 v Q2 E2 hi hv g q2 => ?_) fun h' tk kp g => ?_
 ·have ne:p≠s'.heap.objs.size:=let ⟨o,ho,_⟩:=keepL k;yaF (yak ho)
  have W:=Walks.list (prog:=X.prog) (w:=X.w) hh s'.heap.objs.size p ne its.toArray
  rw [show its.toArray.size=ys.length by simp [len]] at W
  exact ⟨_,_,fun A2 E2 Q2 z=>ycI (keepL k) z,W,⟨⟨_,yai _ rfl,rfl,rfl⟩,(keepL k).push _⟩⟩
 ·refine ⟨⟨⟨_,#[],0,_,[],yad _ (yai _ rfl),⟨rfl,rfl,rfl⟩,rfl,fun e he=>by simp at he,.nil,.nil,by decide,by rfl,rfl,fun z=>absurd rfl z⟩,.nil⟩,yag _⟩
 ·exact ⟨g.1.keeps fun o e=>k _ _ (yaF (ybh _)) e,g.2⟩
 ·obtain ⟨g,gl⟩:=g
  have hv':its[i]? = some v:=by simpa using hv
  have yi:(ys.map V.str)[i]? = some (V.str ys[i]):=by rw [yae,yab hi];rfl
  obtain ⟨v',e',rel⟩:=rv.get yi
  rw [hv'] at e'
  cases e'
  obtain ⟨t,rfl⟩:=rel
  unfold setAdd
  refine ya9 (yac (wpAny_pyHash_str ?_))
  refine tx_add (s:={ s2 with toks:=s2.toks+1 }) g (by unfold ybZ;omega) fun b h' sb hS' => ?_
  refine q2 _ h' _ sb ?_
  show TxSet _ _ _ _ _∧_
  rw [yaB hi,once_snoc]
  refine ⟨hS',?_⟩
  split
  ·omega
  ·rw [yao]
   simp only [yal,ya5]
   omega
 ·obtain ⟨g,_⟩:=g
  rw [yba] at g
  exact ⟨.ref s.heap.objs.size,_,I.laid (t':=tk) kp (yag _) (txO_ok g),rfl,q _ (I.hok.fresh (yag _))⟩
end
open PySem
theorem slot_sit_next:Slot "set_iterator" "__next__" "set_iterator.__next__" := .of (owner := "set_iterator") (n := "__next__") (by rw [typeLookup_type,yex];kernel_rfl) (by decide +kernel) (by decide +kernel) (by decide +kernel) (.inl (by decide +kernel)) (by rw [yen];kernel_rfl)
theorem zdx:Slot "set_iterator" "__iter__" "set_iterator.__iter__" := .of (owner := "set_iterator") (n := "__iter__") (by rw [typeLookup_type,yex];kernel_rfl) (by decide +kernel) (by decide +kernel) (by decide +kernel) (.inl (by decide +kernel)) (by rw [yen];kernel_rfl)
theorem zbS:entryFor table "set_iterator.__next__" = some Builtin.«set_iterator.__next__»:=entryFor_of_tree (by kernel_rfl)
theorem zfu:entryFor table "set_iterator.__iter__" = some Builtin.«dict_keyiterator.__iter__»:=entryFor_alias (id' := "dict_keyiterator.__iter__") (by kernel_rfl) rfl (by decide +kernel) (by kernel_rfl)
theorem zdm:entryFor table "set.__iter__" = some Builtin.«frozenset.__iter__»:=entryFor_alias (id' := "frozenset.__iter__") (by kernel_rfl) rfl (by decide +kernel) (by kernel_rfl)
theorem zgN:Manifest.owners.lookup (String.ofList "rotareti_tes".toList.reverse)=some Manifest.sig_set_iterator:=by kernel_rfl
theorem zb0 (a:Value):argsOk "set_iterator.__next__" ⟨[a],[]⟩:=by
 unfold argsOk
 rw [signature?_of (id := "set_iterator.__next__") (n := "__txen__".toList) (o := "rotareti_tes".toList) (by kernel_rfl) zgN]
 kernel_rfl
theorem zf5 (a:Value):argsOk "set_iterator.__iter__" ⟨[a],[]⟩:=by
 unfold argsOk
 rw [signature?_of (id := "set_iterator.__iter__") (n := "__reti__".toList) (o := "rotareti_tes".toList) (by kernel_rfl) zgN]
 kernel_rfl
def sitO (first:Value) (i:Nat) (a:Addr) (n ep:Nat):Obj:={ cls := .type "set_iterator",dict:=none,data := .fields #[first,.int i 0,.ref a,.int n 0,.int ep 0],slots := #[] }
theorem zcq {α:Type}:∀ {l:List α} {i:Nat} {x:α},l[i]? = some x→(x :: l.eraseIdx i).Perm l
 | [],i,x,h=>by simp at h
 | y :: l,0,x,h=>by
  simp only [List.getElem?_cons_zero,Option.some.injEq] at h
  subst h
  exact .refl _
 | y :: l,i+1,x,h=>by
  simp only [List.getElem?_cons_succ] at h
  rw [List.eraseIdx_cons_succ]
  exact (List.Perm.swap y x _).trans ((zcq h).cons y)
theorem pick_go {α:Type} (next:Nat→Nat):∀ (fuel k:Nat) (left:List α) (out:Array α),left.length=fuel→(pickOrder.go next fuel k left out).toList.Perm (out.toList++left)
 | 0,k,left,out,h=>by
  cases left with
  | nil=>rw [ycZ];exact .refl _
  | cons x l=>cases h
 | fuel+1,k,left,out,h=>by
  have pos:0 < left.length:=by omega
  have lt:next k % left.length < left.length:=Nat.mod_lt _ pos
  have e:left[next k % left.length]? = some left[next k % left.length]:=yab lt
  unfold pickOrder.go
  rw [e]
  dsimp only
  refine (pick_go next fuel (k+1) _ _ (by rw [List.length_eraseIdx,if_pos lt];omega)).trans ?_
  rw [yfJ,ych]
  exact (zcq e).append_left _
theorem zgL {α:Type} (next:Nat→Nat) (xs:Array α):(yfK next xs).toList.Perm xs.toList:=by
 have:=pick_go next xs.size 0 xs.toList #[] (by simp)
 simpa [yfK] using this
section
variable {prog:Program} {w:World} {A:Around} {E:Value→Shared→Prop} {s:Shared}
theorem zgz {n:Nat} {src:Source} {Q:Nat→Shared→Prop} (hn:n≠0) (h:∀ i d,i < n→Q i { s with drawn:=d }):wpAny (model prog w) A (choose src n) Q E s:=by
 intro Γ p hΓ
 refine Sem.wp_choose .. |>.mpr ⟨hn,?_⟩
 exact h _ _ (Nat.mod_lt _ (Nat.pos_of_ne_zero hn))
theorem zg4 {α:Type}:∀ (n:Nat) (xs:List α) (s:Shared) (Q:List α→Shared→Prop),xs.length=n→(∀ l d,l.Perm xs→Q l { s with drawn:=d })→wpAny (model prog w) A (drawOrder n xs) Q E s
 | 0,xs,s,Q,h,q=>by
  cases xs with
  | nil=>exact yaf (q [] s.drawn (.refl _))
  | cons x l=>cases h
 | n+1,[],s,Q,h,q=>by cases h
 | n+1,x :: xs,s,Q,h,q=>by
  unfold drawOrder
  refine yac (zgz (by rw [h];omega) fun i d hi => ?_)
  have e:(x :: xs)[i]? = some (x :: xs)[i]:=yab hi
  rw [e]
  dsimp only
  refine yac (zg4 n _ _ _ (by rw [List.length_eraseIdx,if_pos hi];omega) fun l d' pl => ?_)
  exact yaf (q _ d' ((pl.cons _).trans (zcq e)))
end
section
variable {prog:Program} {w:World} {A:Around} {E:Value→Shared→Prop} {s:Shared} {it a:Addr} {i n ep:Nat} {o:Obj} {es:Array (Int×Value)} {t:SetTable}
theorem zhD {Q:Option Value→Shared→Prop} {h:Heap} (hh:A.handled=none) (hx:Heap.ExtBut it s.heap h) (hQ:∀ h',Heap.ExtBut it s.heap h'→Q none { s with heap:=h' }) :
  wpAny (model prog w) A.in1 (newExc (.type "StopIteration") [] >>= fun e=>raiseNew (α:=Fin) e) (fun _ _=>False) (fun e s'=>wpAny (model prog w) A (do if ← isInstance e (.type "StopIteration") then pure none else throw e) Q E s') { s with heap:=h }:=by
 refine yac ?_
 simp only [newExc,newTuple]
 refine yac (ybu ?_ (by size_fits))
 refine yac (m:=firstArgMember _ _) (wpAny_of_eq (a:=ycy) (by first | rfl | (simp only [firstArgMember];rfl)) ?_)
 refine ybu ?_ (by size_fits)
 simp only [raiseNew]
 refine yac (wpAny_handled ?_)
 rw [show A.in1.handled=none from hh]
 refine yac (yaf (wpAny_throw ?_))
 refine yac (wpAny_isInstance (T := "StopIteration") (b:=true) ⟨_,yai _ rfl,rfl⟩ isSubtype_stop ?_)
 exact yaf (hQ _ ((hx.push _).push _))
theorem zbD {first:Value} (hit:s.heap.get? it=some (sitO first i a n ep)):s.TypeIs (.ref it) "set_iterator":=⟨_,hit,rfl⟩
theorem zhJ {slot nx:Nat} {x:Value} {Q:Option Value→Shared→Prop} (hit:s.heap.get? it=some (sitO (.int slot 0) i a n ep)) (ho:s.heap.get? a=some o) (hd:o.data = .set es ep t) (hf:t.fits es.size=true) (hn:es.size=n)
  (nxt:∀ (A':Around) (E':Value→Shared→Prop) (Q':Option (Value×Nat)→Shared→Prop),Q' (some (x,nx)) s→wpAny (model prog w) A' (yfs a slot i ep) Q' E' s)
  (hQ:∀ h',h'.get? it=some (sitO (.int nx 0) (i+1) a n ep)→Heap.SameBut it s.heap h'→Q (some x) { s with heap:=h' }) :
  wpAny (model prog w) A (yfb (.ref it)) Q E s:=by
 unfold yfb
 refine yac (ydw (ybX (name:=ycf "__next__") (zbD hit) slot_sit_next (ybq slot_sit_next (zbD hit) zbS ?_ (zb0 _))))
 unfold Builtin.«set_iterator.__next__» slotArgs
 refine yac (yaf ?_)
 refine yac (yft hit rfl ?_)
 dsimp only
 refine yac (ycM ho hd hf ?_)
 rw [if_neg (by rw [hn];simp)]
 rw [ybO,ybO,ybO]
 refine yac (nxt _ _ _ ?_)
 dsimp only
 refine yac (ybH hit (by simp) fun h1 e1 sb1 => ?_)
 refine yac (ybH (s:={ s with heap:=h1 }) e1 (by simp) fun h2 e2 sb2 => ?_)
 exact yaf ⟨_,rfl,yaf (hQ h2 (by rw [e2];simp [sitO,rawInt]) (sb1.trans sb2))⟩
theorem zir {slot:Nat} {Q:Option Value→Shared→Prop} (hh:A.handled=none) (hit:s.heap.get? it=some (sitO (.int slot 0) i a n ep)) (ho:s.heap.get? a=some o) (hd:o.data = .set es ep t) (hf:t.fits es.size=true) (hn:es.size=n)
  (nxt:∀ (A':Around) (E':Value→Shared→Prop) (Q':Option (Value×Nat)→Shared→Prop),Q' none s→wpAny (model prog w) A' (yfs a slot i ep) Q' E' s)
  (hQ:∀ h',Heap.ExtBut it s.heap h'→Q none { s with heap:=h' }) :
  wpAny (model prog w) A (yfb (.ref it)) Q E s:=by
 unfold yfb
 refine yac (ydw (ybX (name:=ycf "__next__") (zbD hit) slot_sit_next (ybq slot_sit_next (zbD hit) zbS ?_ (zb0 _))))
 unfold Builtin.«set_iterator.__next__» slotArgs
 refine yac (yaf ?_)
 refine yac (yft hit rfl ?_)
 dsimp only
 refine yac (ycM ho hd hf ?_)
 rw [if_neg (by rw [hn];simp)]
 rw [ybO,ybO,ybO]
 refine yac (nxt _ _ _ ?_)
 dsimp only
 refine yac (ybH hit (by simp) fun h1 e1 sb1 => ?_)
 refine ycb (zhD (A:=A) (E:=E) (Q:=Q) (s:=s) hh sb1.extBut hQ) (fun _ _ z=>z.elim) fun e s' z => ?_
 exact z
theorem zgs {tp:Addr} {ot:Obj} {places:Array Value} {c:Nat} {p:Nat} {x:Int×Value} {Q:Option Value→Shared→Prop} (hit:s.heap.get? it=some (sitO (.ref tp) i a n ep)) (ho:s.heap.get? a=some o) (hd:o.data = .set es ep t) (hf:t.fits es.size=true) (hn:es.size=n)
  (hot:s.heap.get? tp=some ot) (dt:ot.data = .seq places c) (hp:places[i]? = some (.int p 0)) (hx:es[p]? = some x)
  (hQ:∀ h',h'.get? it=some (sitO (.ref tp) (i+1) a n ep)→Heap.SameBut it s.heap h'→Q (some x.2) { s with heap:=h' }) :
  wpAny (model prog w) A (yfb (.ref it)) Q E s:=by
 unfold yfb
 refine yac (ydw (ybX (name:=ycf "__next__") (zbD hit) slot_sit_next (ybq slot_sit_next (zbD hit) zbS ?_ (zb0 _))))
 unfold Builtin.«set_iterator.__next__» slotArgs
 refine yac (yaf ?_)
 refine yac (yft hit rfl ?_)
 dsimp only
 refine yac (ycM ho hd hf ?_)
 rw [if_neg (by rw [hn];simp)]
 refine yac (yct hot dt ?_)
 dsimp only
 rw [ybO,hp]
 dsimp only
 rw [ybO,ybO]
 unfold setNextDrawn
 refine yac (yac (ybl ho hd hf ?_))
 dsimp only
 rw [if_neg (by simp)]
 rw [hx]
 refine yaf ?_
 refine yac (ybH hit (by simp) fun h1 e1 sb1 => ?_)
 exact yaf ⟨_,rfl,yaf (hQ h1 (by rw [e1];simp [sitO,rawInt]) sb1)⟩
theorem zhm {tp:Addr} {ot:Obj} {places:Array Value} {c:Nat} {Q:Option Value→Shared→Prop} (hh:A.handled=none) (hit:s.heap.get? it=some (sitO (.ref tp) i a n ep)) (ho:s.heap.get? a=some o) (hd:o.data = .set es ep t) (hf:t.fits es.size=true) (hn:es.size=n)
  (hot:s.heap.get? tp=some ot) (dt:ot.data = .seq places c) (hp:places[i]? = none)
  (hQ:∀ h',Heap.ExtBut it s.heap h'→Q none { s with heap:=h' }) :
  wpAny (model prog w) A (yfb (.ref it)) Q E s:=by
 unfold yfb
 refine yac (ydw (ybX (name:=ycf "__next__") (zbD hit) slot_sit_next (ybq slot_sit_next (zbD hit) zbS ?_ (zb0 _))))
 unfold Builtin.«set_iterator.__next__» slotArgs
 refine yac (yaf ?_)
 refine yac (yft hit rfl ?_)
 dsimp only
 refine yac (ycM ho hd hf ?_)
 rw [if_neg (by rw [hn];simp)]
 refine yac (yct hot dt ?_)
 dsimp only
 rw [ybO,hp]
 dsimp only
 refine yac (ybH hit (by simp) fun h1 e1 sb1 => ?_)
 refine yac (ybH (s:={ s with heap:=h1 }) e1 (by simp) fun h2 e2 sb2 => ?_)
 refine ycb (zhD (A:=A) (E:=E) (Q:=Q) (s:=s) hh (sb1.trans sb2).extBut hQ) (fun _ _ z=>z.elim) fun e s' z => ?_
 exact z
end
section
variable {prog:Program} {w:World} {A:Around} {E:Value→Shared→Prop} {s:Shared} {it a:Addr} {i n ep:Nat} {o:Obj} {es:Array (Int×Value)} {t:SetTable}
theorem zbm {α:Type} {c:Prop} [Decidable c] {x y:Sem α} {Q:α→Shared→Prop} (h:¬ c) (g:wpAny (model prog w) A y Q E s):wpAny (model prog w) A (if c then x else y) Q E s:=by rw [if_neg h];exact g
theorem zeW {α:Type} {c:Prop} [Decidable c] {x y:Sem α} {Q:α→Shared→Prop} (h:c) (g:wpAny (model prog w) A x Q E s):wpAny (model prog w) A (if c then x else y) Q E s:=by rw [if_pos h];exact g
theorem zgY {slot:Nat} {Q:Option (Value×Nat)→Shared→Prop} (bt:w.params.followText "set-order" = true) (ho:s.heap.get? a=some o) (hd:o.data = .set es ep t) (hf:t.fits es.size=true)
  (h:Q (((yfK (w.params.setOrder a ep) es)[i]?).map fun e=>(e.2,slot)) s):wpAny (model prog w) A (yfs a slot i ep) Q E s:=by
 unfold yfs yeO
 refine yac (ybl ho hd hf ?_)
 dsimp only
 refine yac (yac (ycn (yaf ?_)))
 refine zeW bt ?_
 refine zbm (by simp) ?_
 refine yac ?_
 unfold setWalk yeO
 refine yac (ybl ho hd hf ?_)
 dsimp only
 refine yac (yac (ycn (yaf ?_)))
 refine zeW bt ?_
 refine yac (ycn (yaf ?_))
 exact yaf h
theorem zfB {slot:Nat} {Q:Option (Value×Nat)→Shared→Prop} (bt:w.params.followText "set-order" = false) (ho:s.heap.get? a=some o) (hd:o.data = .set es ep t) (hf:t.fits es.size=true)
  (hs:es.size≤1) (hl:t.led=true)
  (h:Q (match es[yaZ t.place slot]?,t.place[yaZ t.place slot]? with | some (_,x),some j=>some (x,j+1) | _,_=>none) s):wpAny (model prog w) A (yfs a slot i ep) Q E s:=by
 unfold yfs yeO
 refine yac (ybl ho hd hf ?_)
 dsimp only
 refine yac (yac (ycn (yaf ?_)))
 refine zbm (by rw [show (model prog w).w=w from rfl,bt];exact yaK) ?_
 refine zbm (show ¬ ((!t.plain&&decide (es.size > 1))=true) by simp;omega) ?_
 refine yac (zbm (show ¬ ((!t.led && !es.isEmpty)=true) by simp [hl]) (yaf ?_))
 exact yaf h
theorem zhl (p:Nat):yaZ #[p] 0=0∧yaZ #[p] (p+1)=1:=by
 constructor <;> simp [yaZ,yc7]
theorem zjl (bt:w.params.followText "set-order" = true∨es.size≤1) {Q:Bool→Shared→Prop} (ho:s.heap.get? a=some o) (hd:o.data = .set es ep t) (hf:t.fits es.size=true) (h:Q false s):wpAny (model prog w) A (setDrawn a) Q E s:=by
 unfold setDrawn yeO
 refine yac (ybl ho hd hf ?_)
 dsimp only
 refine yac (yac (ycn (yaf ?_)))
 refine yaf ?_
 have e:(!(w.params.followText "set-order")&&(!t.plain&&decide (es.size > 1)))=false:=by
  rcases bt with b | b
  ·rw [b];rfl
  ·rw [show decide (es.size > 1)=false by simp;omega];simp
 have e2:Q (!(w.params.followText "set-order")&&(!t.plain&&decide (es.size > 1))) s:=by rw [e];exact h
 exact e2
theorem drawn_yes (bt:w.params.followText "set-order" = false) (hs:1 < es.size) (hpl:t.plain=false) {Q:Bool→Shared→Prop} (ho:s.heap.get? a=some o) (hd:o.data = .set es ep t) (hf:t.fits es.size=true) (h:Q true s):wpAny (model prog w) A (setDrawn a) Q E s:=by
 unfold setDrawn yeO
 refine yac (ybl ho hd hf ?_)
 dsimp only
 refine yac (yac (ycn (yaf ?_)))
 refine yaf ?_
 have e2:Q (!(w.params.followText "set-order")&&(!t.plain&&decide (es.size > 1))) s:=by
  rw [bt,hpl,show decide (es.size > 1)=true by simp;omega]
  exact h
 exact e2
structure SetWalk (prog:Program) (w:World) (A:Around) (s:Shared) (a:Addr) (es:Array (Int×Value)) (I:Addr) (h':Heap):Prop where
 ext:∀ b o,s.heap.get? b=some o→h'.get? b=some o
 size:s.heap.objs.size≤h'.objs.size
 new:s.heap.objs.size≤I
 walk:∃ (vs:List Value) (fp:List Addr) (St:Nat→Heap→Prop),vs.Perm (es.toList.map (·.2))∧Walks prog w A I fp [I] vs.length (fun i v=>vs[i]? = some v) St∧St 0 h'∧∀ b∈fp,b=a∨s.heap.objs.size≤b∧b < h'.objs.size
theorem ziJ {first:Value} {Q:Value→Shared→Prop} (hit:s.heap.get? it=some (sitO first i a n ep)) (h:Q (.ref it) s):wpAny (model prog w) A (pyIter (.ref it)) Q E s:=by
 refine wpAny_pyIter_slot (zbD hit) zdx (ybq zdx (zbD hit) zfu ?_ (zf5 _))
 show wpAny _ _ (ret (.ref it)) _ _ s
 exact yaf ⟨_,rfl, "set_iterator",_,zbD hit,slot_sit_next.lookup,h⟩
theorem zht (hh:A.handled=none) {I:Addr} (ne:a≠I) {vs:List Value} (slots:Nat→Nat) (hd:o.data = .set es ep t) (hf:t.fits es.size=true) (hv:vs.length=es.size)
  (nxt:∀ (s:Shared) (A':Around) (E':Value→Shared→Prop) (Q':Option (Value×Nat)→Shared→Prop) (i:Nat),i≤vs.length→s.heap.get? a=some o→Q' ((vs[i]?).map fun v=>(v,slots (i+1))) s→wpAny (model prog w) A' (yfs a (slots i) i ep) Q' E' s) :
  Walks prog w A I [I,a] [I] vs.length (fun i v=>vs[i]? = some v) (fun i h=>h.get? I=some (sitO (.int (slots i) 0) i a es.size ep)∧h.get? a=some o) where
 sub:=fun b hb=>by simp at hb;simp [hb]
 frame:=fun _ _ _ st hk=>⟨hk I (by simp) _ st.1,hk a (by simp) _ st.2⟩
 item:=fun i s Q E hi st hQ=>by
  refine zhJ (x:=vs[i]) (nx:=slots (i+1)) st.1 st.2 hd hf rfl (fun A' E' Q' q=>nxt s A' E' Q' i (ybs hi) st.2 (by rw [yab hi];exact q)) fun h' e sb => ?_
  exact hQ _ h' s.toks (yab hi) ⟨e,sb.extBut a o ne st.2⟩ fun b o hb e=>sb.extBut b o (fun h=>hb (by simp [h])) e
 done:=fun s Q E st hQ=>by
  refine zir hh st.1 st.2 hd hf rfl (fun A' E' Q' q=>nxt s A' E' Q' vs.length (yag _) st.2 (by rw [ybT (yag _)];exact q)) fun h' he' => ?_
  exact hQ h' s.toks fun b o hb e=>he' b o (fun h=>hb (by simp [h])) e
 self:=fun _ _ _ _ st hQ=>ziJ st.1 hQ
theorem zjZ (hh:A.handled=none) {I tp:Addr} (ne:a≠I) (nt:tp≠I) {ps:List Nat} {ot:Obj} {c:Nat} {vs:List Value} (hd:o.data = .set es ep t) (hf:t.fits es.size=true) (hv:vs.length=ps.length) (dt:ot.data = .seq (ps.map fun (p:Nat)=>ycY (p:Int) 0).toArray c)
  (at_:∀ (i:Nat) (h:i < ps.length),∃ e,es[ps[i]]? = some e∧vs[i]? = some e.2) :
  Walks prog w A I [I,a,tp] [I] vs.length (fun i v=>vs[i]? = some v) (fun i h=>h.get? I=some (sitO (.ref tp) i a es.size ep)∧h.get? a=some o∧h.get? tp=some ot) where
 sub:=fun b hb=>by simp at hb;simp [hb]
 frame:=fun _ _ _ st hk=>⟨hk I (by simp) _ st.1,hk a (by simp) _ st.2.1,hk tp (by simp) _ st.2.2⟩
 item:=fun i s Q E hi st hQ=>by
  obtain ⟨x,e1,e2⟩:=at_ i (by rw [← hv];exact hi)
  refine zgs (p:=ps[i]'(by rw [← hv];exact hi)) st.1 st.2.1 hd hf rfl st.2.2 dt ?_ e1 fun h' e sb => ?_
  ·have hi':i < ps.length:=by rw [← hv];exact hi
   simp [hi']
  ·exact hQ _ h' s.toks e2 ⟨e,sb.extBut a o ne st.2.1,sb.extBut tp ot nt st.2.2⟩ fun b o hb e=>sb.extBut b o (fun h=>hb (by simp [h])) e
 done:=fun s Q E st hQ=>by
  refine zhm hh st.1 st.2.1 hd hf rfl st.2.2 dt (by simp [hv]) fun h' he' => ?_
  exact hQ h' s.toks fun b o hb e=>he' b o (fun h=>hb (by simp [h])) e
 self:=fun _ _ _ _ st hQ=>ziJ st.1 hQ
end
section
variable {prog:Program} {w:World} {A:Around} {E:Value→Shared→Prop} {s:Shared} {it a:Addr} {i n ep:Nat} {o:Obj} {es:Array (Int×Value)} {t:SetTable}
theorem map_at {α:Type} {l:List α} {f:α→Value} {i:Nat} {sl:Nat}:(l[i]?).map (fun e=>(f e,sl))=((l.map f)[i]?).map fun v=>(v,sl):=by
 rw [yae,Option.map_map]
 rfl
theorem ziI {Q:Value→Shared→Prop} (ho:s.heap.get? a=some o) (hex:o.ExactSet) (hd:o.data = .set es ep t) (hf:t.fits es.size=true) (hl:t.led = !(w.params.followText "set-order")) (hp:0 < es.size→t.plain=false) (hb:es.size < ybZ)
  (hQ:∀ I h' d,(∀ A':Around,A'.handled=none→SetWalk prog w A' s a es I h')→Q (.ref I) { s with heap:=h',drawn:=d }):wpAny (model prog w) A (pyIter (.ref a)) Q E s:=by
 have hT:s.TypeIs (.ref a) "set":=⟨o,ho,hex.1⟩
 have lt:=yak ho
 refine wpAny_pyIter_slot hT ye0 (ybq ye0 hT zdm ?_ (F.args_set_iter_1 _))
 unfold Builtin.«frozenset.__iter__» Builtin.Frozenset.slot0 slotArgs
 simp only [List.isEmpty_nil,yeJ,ya0,↓reduceIte,bind_assoc,ya5,bne_self_eq_false]
 unfold Builtin.Frozenset.addrOf Builtin.Frozenset.sizeOf
 refine yac (yaf ?_)
 try dsimp only
 refine yac (yaf ?_)
 refine yac (yac (ycM ho hd hf (yaf ?_)))
 have intMode:∀ (vs:List Value) (slots:Nat→Nat),slots 0=0→vs.Perm (es.toList.map (·.2))→(∀ (s:Shared) (A':Around) (E':Value→Shared→Prop) (Q':Option (Value×Nat)→Shared→Prop) (i:Nat),i≤vs.length→s.heap.get? a=some o→Q' ((vs[i]?).map fun v=>(v,slots (i+1))) s→wpAny (model prog w) A' (yfs a (slots i) i ep) Q' E' s) →
   Q (.ref s.heap.objs.size) { s with heap:=s.heap.push (sitO (.int 0 0) 0 a es.size ep) }:=by
  intro vs slots s0 pv nxt
  refine hQ _ _ s.drawn fun A' hh=>⟨fun b o e=>yad _ e,by rw [ybd];exact ycA _,yag _,vs,_,_,pv,zht hh (yaF lt) slots hd hf (by rw [pv.length_eq];simp) nxt,⟨?_,yad _ ho⟩,?_⟩
  ·rw [s0]
   exact yai _ rfl
  ·intro b hb
   rcases yaN.mp hb with hb | hb
   ·exact .inr ⟨by rw [hb];exact yag _,by rw [hb,ybd];exact ybh _⟩
   ·exact .inl (ya4.mp hb)
 have fin:Q (.ref s.heap.objs.size) { s with heap:=s.heap.push (sitO (.int 0 0) 0 a es.size ep) }→wpAny (model prog w) A.in1 (do
   let __do_lift ← setEpoch a
   let __do_lift ← newFields "set_iterator" [rawInt 0,rawInt 0,.ref a,rawInt es.size,rawInt __do_lift]
   ret __do_lift) (fun fin s'=>∃ v,fin = .done (.ret v)∧∃ T' r,s'.TypeIs v T'∧typeLookup (.type T') "__next__" = pure (some r)∧Q v s') E s:=by
  intro q
  refine yac (wpAny_setEpoch_of ho hd hf ?_)
  refine yac (ybu ?_ (by size_fits))
  exact yaf ⟨_,rfl, "set_iterator",_,⟨_,yai _ rfl,rfl⟩,slot_sit_next.lookup,q⟩
 cases bt:w.params.followText "set-order" with
 | true =>
  refine yac (zjl (.inl bt) ho hd hf ?_)
  refine zbm yaK ?_
  refine fin (intMode ((yfK (w.params.setOrder a ep) es).toList.map (·.2)) (fun _=>0) rfl ((zgL _ _).map _) fun s1 A' E' Q' i hi h1 q => ?_)
  refine zgY bt h1 hd hf ?_
  rw [← ybI,map_at]
  exact q
 | false =>
  rw [bt] at hl
  have hsz:t.place.size=es.size:=by
   simp only [SetTable.fits,yaL,beq_iff_eq,decide_eq_true_eq] at hf
   exact hf.1
  rcases ybC 1 es.size with h1 | h1
  ·refine yac (drawn_yes bt h1 (hp (by omega)) ho hd hf ?_)
   refine zeW rfl ?_
   refine yac (zg4 _ _ _ _ (by simp) fun l d pl => ?_)
   have ll:l.length=es.size:=by rw [pl.length_eq];simp
   refine yac (wpAny_newTuple ?_ (by rw [yaa,ll];exact ya1 (ybs hb) (by decide)))
   have hl2:∀ (i:Nat) (h:i < l.length),l[i] < es.size:=fun i h=>by
    have:=pl.mem_iff.mp (yam h)
    simpa using this
   refine yac (wpAny_setEpoch_of (yad _ ho) hd hf ?_)
   refine yac (ybu ?_ (by size_fits))
   refine yaf ⟨_,rfl, "set_iterator",_,⟨_,yai _ rfl,rfl⟩,slot_sit_next.lookup,?_⟩
   have mp:∀ (l:List Nat),l.map (fun p=>((es[p]?).map (·.2)).getD .none)=l.map (fun p=>((es.toList[p]?).map (·.2)).getD .none):=fun l=>by simp
   have pv:(l.map fun p=>((es[p]?).map (·.2)).getD ycy).Perm (es.toList.map (·.2)):=by
    refine (pl.map _).trans ?_
    have:(ycz es.size).map (fun p=>((es[p]?).map (·.2)).getD ycy)=es.toList.map (·.2):=by
     refine List.ext_getElem (by simp) fun i h1 h2 => ?_
     have hi:i < es.size:=by simpa using h1
     simp [hi]
    rw [this]
   refine hQ _ _ d fun A' hh => ?_
   have z1:(s.heap.push { cls := .type "tuple",data := .seq (l.map fun (p:Nat)=>ycY (p:Int) 0).toArray }).objs.size=s.heap.objs.size+1:=ybd ..
   have W:=zjZ (prog:=prog) (w:=w) (a:=a) (I:=(s.heap.push { cls := .type "tuple",data := .seq (l.map fun (p:Nat)=>ycY (p:Int) 0).toArray }).objs.size) (tp:=s.heap.objs.size) (c:=0) (vs:=l.map fun p=>((es[p]?).map (·.2)).getD ycy) (ot:={ cls := .type "tuple",data := .seq (l.map fun (p:Nat)=>ycY (p:Int) 0).toArray }) hh (by rw [z1];exact yaF (ycg lt)) (by rw [z1];exact yaF (ybh _)) (ps:=l) hd hf (by simp) rfl (fun i h=>⟨es[l[i]]'(hl2 i h),by simp [hl2 i h],by simp [h,hl2 i h]⟩)
   refine ⟨fun b o e=>yad _ (yad _ e),?_,?_,_,_,_,pv,W,⟨yai _ rfl,?_,?_⟩,?_⟩
   ·rw [ybd,ybd]
    exact Nat.le_succ_of_le (ycA _)
   ·rw [ybd]
    exact ycA _
   ·exact yad _ (yad _ ho)
   ·exact yad _ (yai _ rfl)
   ·intro b hb
    rw [ybd,ybd]
    simp only [ybd,yaN,ydg,or_false] at hb
    rcases hb with hb | hb | hb
    ·exact .inr ⟨by rw [hb];exact ycA _,by rw [hb];exact ybh _⟩
    ·exact .inl hb
    ·exact .inr ⟨by rw [hb];exact yag _,by rw [hb];exact ycg (ybh _)⟩
  ·refine yac (zjl (.inr h1) ho hd hf ?_)
   refine zbm yaK ?_
   obtain ⟨es⟩:=es
   obtain ⟨mask,⟨place⟩,dm,fg,led,mv,pn⟩:=t
   simp only [yaH] at h1 hsz
   dsimp only at hl
   rcases es with _ | ⟨e,_ | ⟨e2,es⟩⟩
   ·rcases place with _ | ⟨p,pl⟩
    ·refine fin (intMode [] (fun _=>0) rfl (.refl _) fun s1 A' E' Q' i hi hs1 q => ?_)
     refine zfB bt hs1 hd hf h1 (by rw [hl];rfl) ?_
     obtain rfl:i=0:=by simpa using hi
     exact q
    ·cases hsz
   ·rcases place with _ | ⟨p,_ | ⟨p2,pl⟩⟩
    ·cases hsz
    ·refine fin (intMode [e.2] (fun i=>if i=0 then 0 else p+1) rfl (.refl _) fun s1 A' E' Q' i hi hs1 q => ?_)
     refine zfB bt hs1 hd hf h1 (by rw [hl];rfl) ?_
     have hi:i≤1:=hi
     rcases ybC i 1 with z | z
     ·obtain rfl:i=0:=by omega
      dsimp only
      rw [if_pos rfl,(zhl p).1]
      exact q
     ·obtain rfl:i=1:=by omega
      dsimp only
      rw [if_neg (by decide),(zhl p).2]
      exact q
    ·cases hsz
   ·simp only [yal] at h1
    omega
end
section
variable {prog:Program} {w:World} {A:Around} {E:Value→Shared→Prop} {s:Shared} {a:Addr} {ep:Nat} {o:Obj} {es:Array (Int×Value)} {t:SetTable}
theorem ziN {Q:Bool→Shared→Prop} {r:Addr} (hT:s.TypeIs (.ref r) "set") (h:Q false s):wpAny (model prog w) A (Builtin.List.listLengthHint (.ref r)) Q E s:=by
 unfold Builtin.List.listLengthHint
 refine yac (wpAny_specialOf hT PySem.F.slot_set_len.lookup ?_)
 generalize hid:("set.__len__" : String)=id0
 wp_delta
 rw [show splitId id0=some ("set", "__len__") from by subst hid;decide +kernel]
 subst hid
 refine yac (wpAny_isInstance (T := "set") (b:=true) hT (by rw [yen];kernel_rfl) ?_)
 refine ydn (fun hab=>absurd hab (by decide)) (fun _ => ?_)
 refine ydn (fun _ => ?_) (fun hab=>absurd (by decide +kernel) hab)
 exact yac (ycR hT (yaf h))
theorem zj2 {R:Result→Shared→Prop} (hh:A.handled=none) (ho:s.heap.get? a=some o) (hex:o.ExactSet) (hd:o.data = .set es ep t) (hf:t.fits es.size=true) (hl:t.led = !(w.params.followText "set-order")) (hp:0 < es.size→t.plain=false) (hb:es.size < ybZ)
  (S:Addr) (hSa:S≠a) (res:Value) (hS:s.heap.get? S=some { cls := .type "list",data := .seq #[] 0 })
  (hR:∀ h' tk d vs c',(∀ b o,b≠S→s.heap.get? b=some o→h'.get? b=some o)→h'.get? S=some { cls := .type "list",dict:=none,data := .seq vs c',slots := #[] }→vs.toList.Perm (es.toList.map (·.2))→R (.ok (.ret res)) { s with heap:=h',toks:=tk,drawn:=d }) :
  wpAny (model prog w) A.in1 (ybD (.ref S) (.ref a) res)
   (fun fin s'=>match fin with | .done f=>R (.ok f) s' | .again c'=>c'.quiet=true∧ydB (model prog w) A c' R s') (fun e s'=>R (.error e) s') s:=by
 have hT:s.TypeIs (.ref a) "set":=⟨o,ho,hex.1⟩
 have ltS:=yak hS
 unfold ybD
 refine yac (ycR (T := "set") hT ?_)
 have h1:yc8 (.ref S) (.ref a)=false:=by simp [yc8,hSa]
 simp only [h1,show (ybQ "set" == ybQ "list")=false by decide,show (ybQ "set" == ybQ "tuple")=false by decide,Bool.or_false,ya0,if_false]
 refine yac (ziI ho hex hd hf hl hp hb fun I h' d sw => ?_)
 obtain ⟨ext,size,new,vs,fp,St,pv,W,st,hfp⟩:=sw A.in1 hh
 have hSf:S∉fp:=fun hm=>by
  rcases hfp S hm with e | e
  ·exact hSa e
  ·exact absurd ltS (yeP.mpr e.1)
 have hSI:S≠I:=fun e=>absurd ltS (by rw [e];exact yeP.mpr new)
 have hn:vs.length≤yaW:=by
  rw [pv.length_eq,yaa,yaO]
  exact ya1 (ybs hb) (by decide)
 have key:∀ (h:Heap) (c₁ tk:Nat),St 0 h→(∀ b o,b≠S→s.heap.get? b=some o→h.get? b=some o) →
   h.get? S=some { cls := .type "list",data := .seq #[] c₁ }→ydB (model prog w) A (.builtin "list.extend.loop" ⟨[.ref S,.ref I,res],[]⟩) R { s with heap:=h,toks:=tk,drawn:=d }:=by
  intro h c₁ tk hst hk hS₁
  refine codeAny_extend_loopS W.toS hn S hSf res vs.length 0 _ #[] c₁ rfl (ya2 _) hst hS₁ (ItemsOf.nil _) fun s' acc' c' hm hS' hacc => ?_
  rw [Moved.eq_with hm]
  have ea:acc'.toList=vs:=by
   refine yfP fun i => ?_
   rcases ybC i acc'.size with hi | hi
   ·have:=hacc.2 i acc'[i] (by simp [hi])
    rw [this,ybI]
    simp [hi]
   ·have l:=hacc.1
    rw [ybT (by simpa using hi),ybT (by rw [← l];exact hi)]
  refine hR s'.heap s'.toks d acc' c' (fun b o hb e=>hm.heap b o (fun hmem => ?_) (hk b o hb e)) hS' (by rw [ea];exact pv)
  rcases yaN.mp hmem with e' | hmem
  ·exact hb e'
  ·exact absurd (yak e) (by rw [ya4.mp hmem];exact yeP.mpr new)
 have hS₁:=ext S _ hS
 refine yac (ya9 (ziN ⟨o,ext _ _ ho,hex.1⟩ ?_))
 refine ydn (fun _ => ?_) (fun _=>yaf ⟨yck ycX _,key _ 0 _ st (fun b o _ e=>ext _ _ e) hS₁⟩)
 refine yac (ycr ?_)
 refine yac ?_
 show wpAny _ _ (updateSeq S (·.push .none) >>= fun _=>updateSeq S (·.pop)) _ _ _
 refine yac (ye2 hS₁ rfl ?_)
 have hS₂:=ybS (ycq (·.push ycy)) hS₁ rfl
 refine ye2 (hz:=by seq_fits) hS₂ rfl ?_
 have hS₃:=ybS (ycq (·.pop)) hS₂ rfl
 have oth:∀ b o,b≠S→h'.get? b=some o→((h'.update S (ycq (·.push ycy))).update S (ycq (·.pop))).get? b=some o:=fun b o hb e=>(ybP _ _ (yco hb)).trans ((ybP _ _ (yco hb)).trans e)
 refine yaf ⟨yck ycX _,key _ _ _ ?_ (fun b o hb e=>oth b o hb (ext b o e)) hS₃⟩
 exact W.frame 0 _ _ st fun b hb o e=>oth b o (fun z=>hSf (z ▸ hb)) e
theorem zh4 {Q:List Value→Shared→Prop} (hh:A.handled=none) (ho:s.heap.get? a=some o) (hex:o.ExactSet) (hd:o.data = .set es ep t) (hf:t.fits es.size=true) (hl:t.led = !(w.params.followText "set-order")) (hp:0 < es.size→t.plain=false) (hb:es.size < ybZ)
  (hQ:∀ h' tk d vs,s.heap.objs.size≤h'.objs.size→(∀ b o,s.heap.get? b=some o→h'.get? b=some o)→vs.Perm (es.toList.map (·.2))→Q vs { s with heap:=h',toks:=tk,drawn:=d }):wpAny (model prog w) A (collect (.ref a)) Q E s:=by
 have hlt:=yak ho
 unfold collect
 refine yac (yem (ybx yey ?_))
 rw [ybi yez _]
 show wpAny _ A.in1 (newList [] >>= fun l=>again (.builtin "list.__iadd__" ⟨[l,.ref a],[]⟩)) _ _ s
 refine yac (ybu ?_)
 refine yaf ⟨yck yc6 _,ybx F.entry_list_iadd ?_⟩
 rw [ybi yc6 _]
 have hS:(s.heap.push { cls := .type "list",data := .seq ([]:List Value).toArray }).get? s.heap.objs.size=some { cls := .type "list",data := .seq #[] }:=yai _ rfl
 show wpAny _ A.in1 (ybD (.ref s.heap.objs.size) (.ref a) (.ref s.heap.objs.size)) _ _ _
 let R:Result→Shared→Prop:=fun res s'=>∃ (h':Heap) (tk:Nat) (d:Drawn) (acc:Array Value) (c:Nat),res = .ok (.ret (.ref s.heap.objs.size))∧s' = { s with heap:=h',toks:=tk,drawn:=d }∧(∀ b o,s.heap.get? b=some o→h'.get? b=some o)∧h'.get? s.heap.objs.size=some { cls := .type "list",dict:=none,data := .seq acc c,slots := #[] }∧acc.toList.Perm (es.toList.map (·.2))
 refine ycb (zj2 (A:=A) (R:=R) (s:={ s with heap:=s.heap.push { cls := .type "list",data := .seq ([]:List Value).toArray } }) hh (yad _ ho) hex hd hf hl hp hb s.heap.objs.size (ycc hlt) (.ref s.heap.objs.size) hS (fun h' tk d acc' c' hk hS' hacc=>⟨h',tk,d,acc',c',rfl,rfl,fun b o e=>hk b o (yaF (yak e)) (yad _ e),hS',hacc⟩)) (fun f s' hf => ?_) (fun e s' he => ?_)
 ·cases f with
  | done fl =>
   obtain ⟨h',tk,d,acc,c,e,rfl,kp,hS',it⟩:=hf
   cases e
   exact yac (yeN hS' (yaf (hQ h' tk d acc.toList (ybs (yak hS')) kp it)))
  | again c' =>
   refine ⟨hf.1,ycE hf.2 fun res s2 hr => ?_⟩
   obtain ⟨h',tk,d,acc,c,e,rfl,kp,hS',it⟩:=hr
   cases e
   exact yac (yeN hS' (yaf (hQ h' tk d acc.toList (ybs (yak hS')) kp it)))
 ·obtain ⟨_,_,_,_,_,z,_⟩:=he
  cases z
theorem zjW {Q:Value→Shared→Prop} {ks:List Str} (hh:A.handled=none) (hS:TxSet prog w s.heap a ks) (h64:ks.length < 64)
  (h:∀ (l:Addr) (h':Heap) (tk e:Nat) (d:Drawn) (out:Array Value) (ms:List Str),s.heap.objs.size≤l→(∀ b o,s.heap.get? b=some o→h'.get? b=some o)→h'.get? l=some (ydj "list" out e)→StrsAre out.toList ms→ms.Perm ks→sortedS ms=true→Q (.ref l) { s with heap:=h',toks:=tk,drawn:=d }) :
  wpAny (model prog w) A (call (.builtin "sorted") [.ref a]) Q E s:=by
 obtain ⟨⟨o,es,ep,t,ord,ho,hex,hd,hel,ha,hpo,hb,hf,hl,hpl⟩,nd⟩:=hS
 have lo:es.size=ks.length:=by
  have l1:=zcc ha
  rw [yaa,yaO] at l1
  rw [l1,hpo.length_eq]
 have pl:0 < es.size→t.plain=false:=fun z=>hpl fun e=>by rw [lo,e] at z;exact absurd z (ycQ _)
 refine ycu kind_sorted yfj yfk (yfl _) ?_
 unfold Builtin.«sorted»
 refine yac (m:=checkCount "sorted" 1 1 _) (yaf ?_)
 refine yac (zh4 hh ho hex hd hf hl pl hb fun h1 tk d vs sz kp it => ?_)
 obtain ⟨ss,hA,ps⟩:=zfa it ha
 have l64:vs.length < 64:=by rw [zcc hA,ps.length_eq,hpo.length_eq];exact h64
 refine yac (yd1 ?_)
 have hoL:(h1.push (ydj "list" vs.toArray 0)).get? h1.objs.size=some (ydj "list" vs.toArray 0):=yai _ rfl
 refine yac (ya9 (ybq yeo ⟨_,hoL,rfl⟩ yd2 (list_sort_treeK strKind_oneLt hoL hA.keysOf (fun v₁ v₂ rest e=>keyKind_strs (by rw [← e];exact hA)) l64 fun st' hp hs=>⟨_,rfl,?_⟩) (yep _)))
 obtain ⟨ms,a1,a2,a3⟩:=sorted_out_str hA hp hs
 obtain ⟨e,he⟩:=sortedHeap_at (out:=(arrOf st').map (·.2)) hoL
 exact yaf ⟨_,rfl,h h1.objs.size _ tk e d _ ms sz (fun b o z=>zbo (kp b o z)) he a1 ((a2.trans ps).trans hpo) a3⟩
end
section
variable {X:Cx} {K:PySem.W.Frag}
theorem zgK (hc:X.calm=true):CallR X (.builtin "sorted") (fun xs H Q=>∃ (p:Addr) (ks:List Str),xs = [.ref p]∧H p=some (txO X.prog X.w p ks)∧ks.length < 64∧∀ (l:Addr) (ms:List Str),H l=none→ms.Perm ks→sortedS ms=true→Q (.ref l) (upd H l (.lst (ms.map V.str)))):=by
 intro pins s σ H xs us Q I r h
 obtain ⟨p,ks,rfl,hp,h64,q⟩:=h
 obtain ⟨u,rfl,ru⟩:=vals1 r
 cases ru
 have hx:TxSet X.prog X.w s.heap p ks:=(I.hok p _ hp).1
 refine zjW (I.ok.hd hc) hx h64 fun l h' tk e d out ms lsz kp he a1 a2 a3 => ?_
 have lm:=zcc a1
 have lp:=a2.length_eq
 have J:=I.laid (t':=tk) (o := .lst (ms.map V.str)) (a:=l) kp lsz ⟨by rw [yaa];exact zac (by omega),out.toList,e,zc8 a1,he⟩
 exact ⟨.ref l,_,⟨J.ok,J.os,J.bare,J.base,J.loc,J.cell,J.free,J.freeC,J.pin,J.hok,J.len⟩,rfl,q _ ms (I.hok.fresh lsz) a2 a3⟩
end
section
variable {X:Cx} {CX:CXT} {k:Nat} {ps:List Str} {ι:Type} {C:ι→Addr} {sp:ι→Sp} {E:XK} {m:Str} {pos apos:Pos} {e o:Expr} {es:List Expr} {ta:TE} {t:TA}
end
section
variable {P:Program} {w:World} {K:PySem.W.Frag} {mg:Str→Option Value} {base:Heap} {N:List Str} {qual:Str} {scope:Scope} {f:Addr} {cd:Value} {A:Around} {outer:List Env} {s0:Shared} {H0:Hp} {E:XK}
 {k:Nat} {ps:List Str} {ι:Type} {C:ι→Addr} {sp:ι→Sp} {m:Str} {pos apos:Pos} {e o:Expr} {es:List Expr} {ta:TE} {t:TA}
end
section
variable {X:Cx}
end
section
variable {P:Program} {w:World} {A:Around} {E:Value→Shared→Prop} {s:Shared} {a:Addr} {o:Obj} {xs:Array Value} {n:Nat}
end
section
variable {X:Cx}
end
section
variable {P:Program} {w:World} {A:Around} {E:Value→Shared→Prop} {s:Shared} {κ:Type} [DecidableEq κ] {knd:PySem.KeyKind P w κ} {a b:Addr}
end
section
variable {P:Program} {w:World} {A:Around} {E:Value→Shared→Prop} {s:Shared} {κ:Type} [DecidableEq κ] {knd:PySem.KeyKind P w κ} {a b:Addr}
end
section
variable {X:Cx}
end
section
variable {X:Cx} {a:Addr} {kvs:List (Str×Str)}
end
def LtsAt (κ:PyProof.Rows.KeyKind) (kd:SortKind) (P:Program) (w:World) (A:Around) (s:Shared):Prop :=
 ∀ (E:Value→Shared→Prop) (x y:Value) (a b:κ.α) (Q:Bool→Shared→Prop),κ.keyOf x=some a→κ.keyOf y=some b→Q (κ.blt a b) s→wpAny (model P w) A (keyLt' kd x y) Q E s
structure SB (kd:SortKind) (a₀:Array Keyed) (st:SortSt):Prop where
 perm:(arrOf st).Perm a₀
 kind:yfe st=kd
 failed:failedOf st=none
 pend:pendingOf st = #[]
theorem SB.size {kd:SortKind} {a₀:Array Keyed} {st:SortSt} (h:SB kd a₀ st):(arrOf st).size=a₀.size:=h.perm.size_eq
theorem SB.put {kd:SortKind} {a₀:Array Keyed} {st:SortSt} (h:SB kd a₀ st) {xs:Array Keyed} (p:xs.Perm (arrOf st)):SB kd a₀ (setArr st xs):=⟨p.trans h.perm,h.kind,h.failed,h.pend⟩
theorem SB.key {κ:PyProof.Rows.KeyKind} {kd:SortKind} {a₀:Array Keyed} {st:SortSt} (h:SB kd a₀ st) (h0:KeysOf κ a₀) {i:Nat} (hi:i < a₀.size):∃ x y a,(arrOf st)[i]? = some (x,y)∧κ.keyOf x=some a∧KK κ (arrOf st) i=a:=by
 have lt:i < (arrOf st).size:=by rw [h.size];exact hi
 have e:=yb6 lt
 have inn:(arrOf st)[i]∈a₀.toList:=(yfa.mp h.perm).mem_iff.mp (by simp)
 obtain ⟨a,ea⟩:=h0 _ inn
 refine ⟨_,_,a,e,ea,?_⟩
 unfold KK
 rw [e]
 show (κ.keyOf (arrOf st)[i].1).getD κ.dflt=a
 rw [ea]
 rfl
section
variable {κ:PyProof.Rows.KeyKind} {xs:Array Keyed} {k:Nat}
theorem up_one:SortedToK κ xs 1:=fun i j h1 h2=>by
 obtain rfl:i=j:=by omega
 exact κ.irrefl _
theorem dn_one:NonIncK κ xs 1:=fun i j h1 h2=>by
 obtain rfl:i=j:=by omega
 exact κ.irrefl _
theorem up_more (h:SortedToK κ xs k) (h1:1≤k) (e:κ.kle (KK κ xs (k - 1)) (KK κ xs k)):SortedToK κ xs (k+1):=fun i j hij hj=>by
 rcases ybC j k with c | c
 ·exact h i j hij c
 ·obtain rfl:j=k:=by omega
  rcases ybC i j with d | d
  ·exact ycB (h i (j - 1) (by omega) (by omega)) e
  ·obtain rfl:i=j:=by omega
   exact κ.irrefl _
theorem zfP (h:NonIncK κ xs k) (h1:1≤k) (e:κ.kle (KK κ xs k) (KK κ xs (k - 1))):NonIncK κ xs (k+1):=fun i j hij hj=>by
 rcases ybC j k with c | c
 ·exact h i j hij c
 ·obtain rfl:j=k:=by omega
  rcases ybC i j with d | d
  ·exact ycB e (h i (j - 1) (by omega) (by omega))
  ·obtain rfl:i=j:=by omega
   exact κ.irrefl _
theorem dn_of {ys:Array Keyed} (h:NonIncK κ xs k) (e:∀ i,KK κ ys i=KK κ xs i):NonIncK κ ys k:=fun i j a b=>by rw [e i,e j];exact h i j a b
theorem up_of_dn (h:NonIncK κ xs k) (hk:k≤xs.size):SortedToK κ (mirror xs 0 k ((k - 0) / 2)) k:=fun i j a b=>by
 rw [KK_mirror hk,KK_mirror hk,if_pos ⟨ya2 _,by omega⟩,if_pos ⟨ya2 _,b⟩]
 exact h _ _ (by omega) (by omega)
end
section
variable {P:Program} {w:World} {A:Around} {E:Value→Shared→Prop} {s:Shared} {κ:PyProof.Rows.KeyKind} {a₀:Array Keyed} {st:SortSt} {n m:Nat} {kd:SortKind}
theorem zgE (hL:LtsAt κ kd P w A s) (h0:KeysOf κ a₀) {i j:Nat} {Q:Option Bool→SortSt→Prop} (B:SB kd a₀ st) (hi:i < a₀.size) (hj:j < a₀.size) (h:Q (some (κ.blt (KK κ (arrOf st) i) (KK κ (arrOf st) j))) st):wpS (model P w) A E s (ltAt' i j) Q st:=by
 obtain ⟨x,p,a,e1,k1,q1⟩:=B.key h0 hi
 obtain ⟨y,r,b,e2,k2,q2⟩:=B.key h0 hj
 rw [q1,q2] at h
 rw [ltAt'_eq]
 refine ybL (wpS_get (ybL ?_))
 rw [elem'_eq,e1]
 refine ycv (ybL ?_)
 rw [elem'_eq,e2]
 refine ycv ?_
 rw [lt'_eq]
 refine ybL (wpS_get (ybL ?_))
 rw [B.kind]
 exact wpS_lift (ydw (hL _ x y a b _ k1 k2 ⟨rfl,ycv h⟩))
theorem asc_at (hL:LtsAt κ kd P w A s) (h0:KeysOf κ a₀) {Q:AscSt→SortSt→Prop} (B:SB kd a₀ st) (l1:1≤n) (l2:n≤m) (l3:m≤a₀.size) (u:SortedToK κ (arrOf st) n)
  (h:∀ k,n≤k→k≤m→SortedToK κ (arrOf st) k→(k=m∨κ.klt (KK κ (arrOf st) k) (KK κ (arrOf st) (k - 1)))→Q (none,k) st):wpS (model P w) A E s (ascLoop n m) Q st:=by
 unfold ascLoop
 refine yeA (fun k c t=>t=st∧c=(none,k)∧SortedToK κ (arrOf st) k) (fun k c t g1 g2 ho_ => ?_) (fun c t ho_ => ?_) ⟨rfl,rfl,u⟩
 ·obtain ⟨et,ec,uk⟩:=ho_
  subst et ec
  refine ybL (zgE hL h0 B (by omega) (by omega) ?_)
  cases less:κ.blt (KK κ (arrOf t) k) (KK κ (arrOf t) (k - 1))
  ·exact ycv ⟨rfl,rfl,up_more uk (by omega) less⟩
  ·exact ycv (h k g1 (by omega) uk (.inr less))
 ·obtain ⟨et,ec,uk⟩:=ho_
  subst et ec
  have e:max n m=m:=by omega
  rw [e] at uk ⊢
  exact h m l2 (yag _) uk (.inl rfl)
theorem tail_at (hL:LtsAt κ kd P w A s) (h0:KeysOf κ a₀) {Q:Option Nat→SortSt→Prop} (B:SB kd a₀ st) (l1:1≤n) (l2:n≤m) (l3:m≤a₀.size) (d:NonIncK κ (arrOf st) n)
  (h:∀ k t,SB kd a₀ t→1≤k→k≤m→SortedToK κ (arrOf t) k→Q (some k) t):wpS (model P w) A E s (tail3 n m) Q st:=by
 have B2:SB kd a₀ (setArr st (mirror (arrOf st) 0 n ((n - 0) / 2))):=B.put (mirror_perm _ _ _ _)
 unfold tail3
 refine ybL (wpS_reverse (ybL (asc_at hL h0 B2 l1 l2 l3 (up_of_dn d (by rw [B.size];omega)) fun k g1 g2 uk _ => ?_)))
 exact ycv (h k _ B2 (by omega) g2 uk)
def Fall (κ:PyProof.Rows.KeyKind) (xs:Array Keyed) (k q:Nat):Prop:=NonIncK κ xs k∧q+1≤k∧∀ i,k - (q+1)≤i→i < k→KK κ xs i=KK κ xs (k - 1)
theorem fall0 {xs:Array Keyed} {k:Nat} (d:NonIncK κ xs k) (h:1≤k):Fall κ xs k 0:=⟨d,h,fun i a b=>by rw [show i=k - 1 by omega]⟩
theorem desc_at (hL:LtsAt κ kd P w A s) (h0:KeysOf κ a₀) {Q:DescSt→SortSt→Prop} (B:SB kd a₀ st) (l1:1≤n) (l2:n≤m) (l3:m≤a₀.size) (d:NonIncK κ (arrOf st) n)
  (h:∀ k q t,SB kd a₀ t→n≤k→k≤m→Fall κ (arrOf t) k q→Q (none,k,q) t):wpS (model P w) A E s (descLoop n m) Q st:=by
 unfold descLoop
 refine yeA (fun k c t=>∃ q,c=(none,k,q)∧SB kd a₀ t∧Fall κ (arrOf t) k q) (fun k c t g1 g2 ho_ => ?_) (fun c t ho_ => ?_) ⟨0,rfl,B,fall0 d l1⟩
 ·obtain ⟨q,ec,Bt,⟨dk,q1,qe⟩⟩:=ho_
  subst ec
  have sz:k≤(arrOf t).size:=by rw [Bt.size];omega
  refine ybL (zgE (i:=k) (j:=k - 1) hL h0 Bt (by omega) (by omega) ?_)
  cases less:κ.blt (KK κ (arrOf t) k) (KK κ (arrOf t) (k - 1))
  ·refine ybL (zgE (i:=k - 1) (j:=k) hL h0 Bt (by omega) (by omega) ?_)
   cases more:κ.blt (KK κ (arrOf t) (k - 1)) (KK κ (arrOf t) k)
   ·have eq:KK κ (arrOf t) k=KK κ (arrOf t) (k - 1):=κ.total _ _ less more
    refine ycv ⟨q+1,rfl,Bt,zfP dk (by omega) (by rw [eq];exact κ.irrefl _),by omega,fun i a b => ?_⟩
    rw [Nat.add_sub_cancel]
    rcases ybC i k with c | c
    ·rw [qe i (by omega) c,eq]
    ·rw [show i=k by omega]
   ·exact ycv (h k q t Bt g1 (by omega) ⟨dk,q1,qe⟩)
  ·have step:NonIncK κ (arrOf t) (k+1):=zfP dk (by omega) (ycx less)
   by_cases c:q > 0
   ·simp only [if_pos c,if_true]
    refine ybL (wpS_reverse (ycv ⟨0,rfl,Bt.put (mirror_perm _ _ _ _),fall0 (dn_of step (KK_mirror_equal sz qe)) (by omega)⟩))
   ·simp only [if_neg c,if_true]
    exact ycv ⟨0,rfl,Bt,fall0 step (by omega)⟩
 ·obtain ⟨q,ec,Bt,F⟩:=ho_
  subst ec
  have e:max n m=m:=by omega
  rw [e] at F ⊢
  exact h m q t Bt l2 (yag _) F
theorem part_at (hL:LtsAt κ kd P w A s) (h0:KeysOf κ a₀) {Q:Option Nat→SortSt→Prop} (B:SB kd a₀ st) (l2:n+1≤m) (l3:m≤a₀.size) (d:NonIncK κ (arrOf st) (n+1))
  (h:∀ k t,SB kd a₀ t→1≤k→k≤m→SortedToK κ (arrOf t) k→Q (some k) t):wpS (model P w) A E s (descPart n m) Q st:=by
 unfold descPart
 refine ybL (wpS_lift (ycr ⟨rfl,ybL (desc_at hL h0 B (Nat.succ_le_succ (ya2 _)) l2 l3 d fun k q t Bt g1 g2 ho_ => ?_)⟩))
 obtain ⟨dk,q1,qe⟩:=ho_
 have sz:k≤(arrOf t).size:=by rw [Bt.size];omega
 by_cases c:q > 0
 ·simp only [if_pos c]
  exact ybL (wpS_reverse (tail_at hL h0 (Bt.put (mirror_perm _ _ _ _)) (by omega) g2 l3 (dn_of dk (KK_mirror_equal sz qe)) h))
 ·simp only [if_neg c]
  exact tail_at hL h0 Bt (by omega) g2 l3 dk h
theorem count_at (hL:LtsAt κ kd P w A s) (h0:KeysOf κ a₀) {Q:Option Nat→SortSt→Prop} (B:SB kd a₀ st) (l1:1≤m) (l3:m≤a₀.size)
  (h:∀ k t,SB kd a₀ t→1≤k→k≤m→SortedToK κ (arrOf t) k→Q (some k) t):wpS (model P w) A E s (countRun' 0 m) Q st:=by
 rw [countRun0_eq]
 refine ybL (asc_at hL h0 B (yag 1) l1 l3 up_one fun k g1 g2 uk or => ?_)
 by_cases c:k=m
 ·simp only [show (k == m)=true by simpa using c,if_true]
  exact ycv (h k st B g1 g2 uk)
 have lt:=or.resolve_left c
 simp only [show (k == m)=false by simpa using c,ya0,if_false]
 by_cases c1:k > 1
 ·simp only [if_pos c1]
  refine ybL (zgE hL h0 B (by omega) (by omega) ?_)
  cases rose:κ.blt (KK κ (arrOf st) 0) (KK κ (arrOf st) (k - 1))
  ·have sz:k≤(arrOf st).size:=by rw [B.size];omega
   have one:∀ i,0≤i→i < k→KK κ (arrOf st) i=KK κ (arrOf st) (k - 1):=fun i _ hi =>
    PyProof.Rows.KeyOrd.kle_antisymm (uk i (k - 1) (by omega) (by omega)) (ycB (show κ.kle _ _ from rose) (uk 0 i (ya2 _) hi))
   have same:=KK_mirror_equal (κ:=κ) (i:=0) sz one
   refine ybL (wpS_reverse (part_at hL h0 (B.put (mirror_perm _ _ _ _)) (by omega) l3 (dn_of (zfP (fun i j a b => ?_) (by omega) (ycx lt)) same) h))
   rw [one i (ya2 _) (by omega),one j (ya2 _) b]
   exact κ.irrefl _
  ·exact ycv (h k st B g1 g2 uk)
 ·simp only [if_neg c1]
  obtain rfl:k=1:=by omega
  exact part_at hL h0 B (by omega) l3 (zfP dn_one (yag 1) (ycx lt)) h
end
section
variable {P:Program} {w:World} {A:Around} {E:Value→Shared→Prop} {s:Shared} {κ:PyProof.Rows.KeyKind} {a₀:Array Keyed} {st:SortSt} {n m:Nat} {kd:SortKind}
def Slot2 (κ:PyProof.Rows.KeyKind) (xs:Array Keyed) (k l r:Nat):Prop:=(∀ i,i < l→κ.kle (KK κ xs i) (KK κ xs k))∧∀ i,r≤i→i < k→κ.klt (KK κ xs k) (KK κ xs i)
theorem put_up {xs:Array Keyed} {k l:Nat} (u:SortedToK κ xs k) (hk:k < xs.size) (hl:l≤k) (p:Slot2 κ xs k l l):SortedToK κ (bubble xs k (k - l)) (k+1):=by
 obtain ⟨lo,hi⟩:=p
 have at_:∀ i,KK κ (bubble xs k (k - l)) i=if i=l then KK κ xs k else if l < i∧i≤k then KK κ xs (i - 1) else KK κ xs i:=fun i=>by
  rw [KK_bubble hk (Nat.sub_le _ _) i,show k - (k - l)=l by omega]
 intro i j hij hj
 rw [at_ i,at_ j]
 by_cases c1:i=l <;> by_cases c2:j=l
 ·rw [if_pos c1,if_pos c2]
  exact κ.irrefl _
 ·rw [if_pos c1,if_neg c2,if_pos ⟨by omega,by omega⟩]
  exact ycx (hi (j - 1) (by omega) (by omega))
 ·rw [if_neg c1,if_pos c2,if_neg (fun z=>by omega)]
  exact lo i (by omega)
 ·rw [if_neg c1,if_neg c2]
  by_cases d1:l < i∧i≤k <;> by_cases d2:l < j∧j≤k
  ·rw [if_pos d1,if_pos d2]
   exact u _ _ (by omega) (by omega)
  ·exact absurd d1 (by omega)
  ·rw [if_neg d1,if_pos d2]
   exact u _ _ (by omega) (by omega)
  ·rw [if_neg d1,if_neg d2]
   exact u _ _ hij (by omega)
theorem bin_at (hL:LtsAt κ kd P w A s) (h0:KeysOf κ a₀) {Q:Bool→SortSt→Prop} (B:SB kd a₀ st) (l2:n≤m) (l3:m≤a₀.size) (u:SortedToK κ (arrOf st) n)
  (h:∀ t,SB kd a₀ t→SortedToK κ (arrOf t) m→Q true t):wpS (model P w) A E s (binarySort' 0 m n) Q st:=by
 rw [binarySort'_eq]
 simp only [Nat.zero_add]
 refine ybL (wpS_mono (yeA (fun k c t=>c=(none,())∧SB kd a₀ t∧SortedToK κ (arrOf t) (if k≤m then k else m)) (Q:=fun c t=>c=(none,())∧SB kd a₀ t∧SortedToK κ (arrOf t) m) (fun k c t g1 g2 ⟨ec,Bt,ut⟩ => ?stp) (fun c t ⟨ec,Bt,ut⟩=>⟨ec,Bt,?fin⟩) ⟨rfl,B,?ini⟩) fun c t ⟨ec,Bt,ut⟩ => ?pst)
 case stp =>
  subst ec
  rw [if_pos (ybs g2)] at ut
  refine ybL (wpS_mono (yeA (fun x c t2=>t2=t∧∃ l r,c=(none,l,r)∧l≤r∧r≤k∧r - l≤k - x∧Slot2 κ (arrOf t) k l r) (Q:=fun c t2=>t2=t∧∃ l r,c=(none,l,r)∧l≤k∧Slot2 κ (arrOf t) k l l) (fun x c t2 f1 f2 ⟨et,l,r,ec,lr,rk,sm,lo,hi⟩ => ?stp2) (fun c t2 ⟨et,l,r,ec,lr,rk,sm,p⟩ => ?fin2) ⟨rfl,0,k,rfl,ya2 _,yag _,yag _,(fun i z=>absurd z (ycj _)),fun i z1 z2=>absurd z2 (by omega)⟩) fun c t2 ⟨et,l,r,ec,lk,p⟩ => ?pst2)
  case stp2 =>
   subst et ec
   dsimp only
   by_cases c:l ≥ r
   ·rw [if_pos c]
    obtain rfl:l=r:=by omega
    exact ycv ⟨rfl,l,l,rfl,rk,lo,hi⟩
   rw [if_neg c]
   refine ybL (zgE (i:=k) (j:=(l+r) / 2) hL h0 Bt (by omega) (by omega) ?_)
   cases less:κ.blt (KK κ (arrOf t2) k) (KK κ (arrOf t2) ((l+r) / 2))
   ·exact ycv ⟨rfl,(l+r) / 2+1,r,rfl,by omega,rk,by omega,(fun i z=>ycB (ut i ((l+r) / 2) (by omega) (by omega)) less),hi⟩
   ·exact ycv ⟨rfl,l,(l+r) / 2,rfl,by omega,by omega,by omega,lo,fun i z1 z2=>PyProof.Rows.KeyOrd.klt_of_klt_of_kle less (ut _ i z1 z2)⟩
  case fin2 =>
   have e:l=r:=by omega
   rw [← e] at p
   exact ⟨et,l,r,ec,by omega,p⟩
  case pst2 =>
   subst et ec
   show wpS _ _ _ _ (moveDown' k l >>= fun _=>pure (yc2 (none,()))) _ _
   rw [moveDown'_eq]
   refine ybL (wpS_modify (ycv ⟨rfl,Bt.put (bubble_perm _ _ _),?_⟩))
   rw [if_pos (show k+1≤m from g2)]
   exact put_up ut (by rw [Bt.size];omega) lk p
 case fin =>
  by_cases c:max (max n 1) m≤m
  ·rw [if_pos c,show max (max n 1) m=m by omega] at ut
   exact ut
  ·rw [if_neg c] at ut
   exact ut
 case ini =>
  by_cases c:max n 1≤m
  ·rw [if_pos c]
   rcases yd4 n with z | z
   ·rw [z]
    exact up_one
   ·rw [show max n 1=n by omega]
    exact u
  ·rw [if_neg c]
   intro i j a b
   omega
 case pst =>
  subst ec
  exact ycv (h t Bt ut)
theorem run_min (h:n < 64) (h2:1≤n):minRun' n n 0=n:=by
 obtain ⟨k,rfl⟩:∃ k,n=k+1:=⟨n - 1,by omega⟩
 rw [minRun'_succ,if_pos h]
def Done2 (κ:PyProof.Rows.KeyKind) (a₀:Array Keyed) (t:SortSt):Prop:=(arrOf t).Perm a₀∧failedOf t=none∧(pendingOf t).size=1∧SortedToK κ (arrOf t) a₀.size
theorem runs_at (hL:LtsAt κ kd P w A s) (h0:KeysOf κ a₀) {Q:Unit→SortSt→Prop} (B:SB kd a₀ st) (l2:2≤a₀.size) (l64:a₀.size < 64)
  (h:∀ t,(arrOf t).Perm a₀→failedOf t=none→SortedToK κ (arrOf t) a₀.size→Q () t):wpS (model P w) A E s sortRuns' Q st:=by
 have fin:∀ {t:SortSt},SB kd a₀ t→SortedToK κ (arrOf t) a₀.size→Done2 κ a₀ (setPending t ((pendingOf t).push (0,a₀.size,0))):=fun {t} Bt u=>⟨Bt.perm,Bt.failed,by show ((pendingOf t).push _).size=1;rw [Bt.pend];rfl,u⟩
 rw [sortRuns'_eq]
 refine ybL (wpS_get ?_)
 simp only [B.size,run_min l64 (by omega)]
 refine ybL (wpS_mono (yeA (fun x c t=>(x=0∧c=(none,0)∧SB kd a₀ t)∨(0 < x∧c=(none,a₀.size)∧Done2 κ a₀ t)) (Q:=fun c t=>c=(none,a₀.size)∧Done2 κ a₀ t) (fun x c t g1 g2 I => ?stp) (fun c t I => ?fin) (.inl ⟨rfl,rfl,B⟩)) fun c t ⟨ec,D⟩ => ?pst)
 case stp =>
  rcases I with ⟨rfl,rfl,Bt⟩ | ⟨_,rfl,D⟩
  ·simp only [if_neg (show ¬ 0 ≥ a₀.size by omega),Nat.sub_zero,Nat.min_self,Nat.zero_add]
   refine ybL (count_at hL h0 Bt (by omega) (yag _) fun k t2 B2 k1 k2 u2 => ?_)
   by_cases c:k < a₀.size
   ·simp only [if_pos c]
    refine ybL (wpS_lift (ycr ⟨rfl,ybL (bin_at hL h0 B2 k2 (yag _) u2 fun t3 B3 u3 => ?_)⟩))
    simp only [yeJ,ya0,if_false]
    refine ybL (wpS_get ?_)
    rw [show (pendingOf t3).back? = none by rw [B3.pend];rfl]
    exact ybL (wpS_modify (ycv (.inr ⟨Nat.succ_pos _,rfl,fin B3 u3⟩)))
   ·simp only [if_neg c]
    obtain rfl:k=a₀.size:=by omega
    refine ybL (wpS_get ?_)
    rw [show (pendingOf t2).back? = none by rw [B2.pend];rfl]
    exact ybL (wpS_modify (ycv (.inr ⟨Nat.succ_pos _,rfl,fin B2 u2⟩)))
  ·simp only [if_pos (yag _),ge_iff_le]
   exact ycv ⟨rfl,D⟩
 case fin =>
  rcases I with ⟨z,_,_⟩ | ⟨_,z,D⟩
  ·omega
  ·exact ⟨z,D⟩
 case pst =>
  subst ec
  refine ybL (wpS_mono (yeA (fun _ c t2=>t2=t∧c=(none,())) (Q:=fun c t2=>t2=t∧c=(none,())) (fun x c t2 _ _ ⟨et,ec⟩ => ?stp2) (fun _ _ z=>z) ⟨rfl,rfl⟩) fun c t2 ⟨et,ec⟩ => ?pst2)
  case stp2 =>
   subst et ec
   refine ybL (wpS_get ?_)
   rw [if_pos (by rw [D.2.2.1];exact yag 1)]
   exact ycv ⟨rfl,rfl⟩
  case pst2 =>
   subst et ec
   exact ycv (h _ D.1 D.2.1 D.2.2.2)
end
def ltKey:Key→Key→Bool
 | .inl i,.inl j=>decide (i < j)
 | .inr x,.inr y=>decide (x.cps.toList < y.cps.toList)
 | .inl _,.inr _=>true
 | .inr _,.inl _=>false
def zaP:List Key→List Key→Bool
 | [],[]=>false
 | [],_ :: _=>true
 | _ :: _,[]=>false
 | x :: xs,y :: ys=>if x=y then zaP xs ys else ltKey x y
theorem zdC (a:Key):ltKey a a=false:=by
 cases a with
 | inl i=>simp [ltKey]
 | inr x=>simpa [ltKey] using List.lt_irrefl x.cps.toList
theorem str_eq {x y:Str} (h:x.cps.toList=y.cps.toList):x=y:=by
 obtain ⟨⟨x⟩⟩:=x
 obtain ⟨⟨y⟩⟩:=y
 have h:x=y:=h
 rw [h]
theorem zeK {a b:Key} (h1:ltKey a b=false) (h2:ltKey b a=false):a=b:=by
 cases a with
 | inl i =>
  cases b with
  | inl j =>
   simp only [ltKey,decide_eq_false_iff_not] at h1 h2
   rw [show i=j by omega]
  | inr y=>cases h1
 | inr x =>
  cases b with
  | inl j=>cases h2
  | inr y =>
   simp only [ltKey,decide_eq_false_iff_not] at h1 h2
   rw [str_eq (List.le_antisymm (List.not_lt.mp h2) (List.not_lt.mp h1))]
theorem zey {a b c:Key} (h1:ltKey a b=true) (h2:ltKey b c=true):ltKey a c=true:=by
 cases a <;> cases b <;> cases c <;> simp only [ltKey,decide_eq_true_eq,ya0] at * <;> first | omega | exact List.lt_trans h1 h2
theorem zdW:∀ a,zaP a a=false
 | []=>rfl
 | x :: xs=>by
  show (if x=x then zaP xs xs else ltKey x x)=false
  rw [if_pos rfl]
  exact zdW xs
theorem zck:∀ {a b},zaP a b=false→zaP b a=false→a=b
 | [],[],_,_=>rfl
 | [],_ :: _,h,_=>nomatch h
 | _ :: _,[],_,h=>nomatch h
 | x :: xs,y :: ys,h1,h2=>by
  have h1:(if x=y then zaP xs ys else ltKey x y)=false:=h1
  have h2:(if y=x then zaP ys xs else ltKey y x)=false:=h2
  by_cases e:x=y
  ·rw [if_pos e] at h1
   rw [if_pos e.symm] at h2
   rw [e,zck h1 h2]
  ·rw [if_neg e] at h1
   rw [if_neg (fun z=>e z.symm)] at h2
   exact absurd (zeK h1 h2) e
theorem zc5:∀ {a b c},zaP a b=true→zaP b c=true→zaP a c=true
 | [],[],_,h,_=>nomatch h
 | [],_ :: _,[],_,h=>nomatch h
 | [],_ :: _,_ :: _,_,_=>rfl
 | _ :: _,[],_,h,_=>nomatch h
 | _ :: _,_ :: _,[],_,h=>nomatch h
 | x :: xs,y :: ys,z :: zs,h1,h2=>by
  have h1:(if x=y then zaP xs ys else ltKey x y)=true:=h1
  have h2:(if y=z then zaP ys zs else ltKey y z)=true:=h2
  show (if x=z then zaP xs zs else ltKey x z)=true
  by_cases e1:x=y <;> by_cases e2:y=z
  ·rw [if_pos e1] at h1
   rw [if_pos e2] at h2
   rw [if_pos (e1.trans e2)]
   exact zc5 h1 h2
  ·rw [if_neg e2] at h2
   rw [e1,if_neg e2]
   exact h2
  ·rw [if_neg e1] at h1
   rw [← e2,if_neg e1]
   exact h1
  ·rw [if_neg e1] at h1
   rw [if_neg e2] at h2
   have t:=zey h1 h2
   rw [if_neg (fun z=>by rw [z,zdC] at t;cases t)]
   exact t
theorem zjQ {a c:List Key} (b:List Key) (h:zaP a c=true):zaP a b=true∨zaP b c=true:=by
 cases h1:zaP a b
 ·cases h2:zaP b c
  ·exfalso
   cases h3:zaP b a
   ·rw [zck h1 h3] at h
    rw [h] at h2
    cases h2
   ·rw [zc5 h3 h] at h2
    cases h2
  ·exact .inr rfl
 ·exact .inl rfl
def zaF:List Bool→List Key→Bool
 | [],[]=>true
 | true :: ks,.inl _ :: xs=>zaF ks xs
 | false :: ks,.inr _ :: xs=>zaF ks xs
 | _,_=>false
def zb9:Value→Option Key
 | .int i _=>some (.inl i)
 | .str x _=>some (.inr x)
 | _=>none
def zcb (h:Heap):Value→Option (List Key)
 | .ref p=>match h.get? p with
  | some o=>match o.data with
   | .seq items _=>if o.cls = .type "tuple" then items.toList.mapM zb9 else none
   | _=>none
  | none=>none
 | _=>none
@[reducible] def tupOrd (h:Heap) (ks:List Bool):PyProof.Rows.KeyKind where
 α:=List Key
 blt:=zaP
 irrefl:=zdW
 trans _ _ _:=zc5
 negTrans _ b _:=zjQ b
 total _ _:=zck
 keyOf v:=(zcb h v).filter (zaF ks)
 dflt := []
theorem zgO (b:Bool) (x y:Value):keyLt' (tuples' b) x y=(do
  let xs ← yd9 x
  let ys ← yd9 y
  for ((p,q),i) in (xs.toList.zip ys.toList).zipIdx do
   if !(← eqBool p q) then return ← oneLt' (b&&i == 0) p q
  return xs.size < ys.size):=rfl
section
variable {P:Program} {w:World} {A:Around} {E:Value→Shared→Prop} {s:Shared}
theorem oneLt_any {b:Bool} {x y:Value} {k l:Key} {Q:Bool→Shared→Prop} (hx:zb9 x=some k) (hy:zb9 y=some l) (al:zaF [k.isLeft] [l]=true) (h:Q (ltKey k l) s):wpAny (model P w) A (oneLt' b x y) Q E s:=by
 cases x with
 | int i t =>
  cases hx
  cases y with
  | int j u =>
   cases hy
   cases b with
   | true=>exact oneLt_int h
   | false =>
    rw [oneLt'_eq]
    simp only [ya0,if_false]
    refine yac (show wpAny (model P w) A (ybo .Lt (.int i t) (.int j u)) _ _ s from lt_int ?_)
    exact ybN h
  | str y u=>cases hy;cases al
  | _=>cases hy
 | str x t =>
  cases hx
  cases y with
  | int j u=>cases hy;cases al
  | str y u =>
   cases hy
   cases b with
   | true=>exact oneLt_str h
   | false =>
    rw [oneLt'_eq]
    simp only [ya0,if_false]
    refine yac (show wpAny (model P w) A (ybo .Lt (.str x t) (.str y u)) _ _ s from PyProof.Rows.lt_str ?_)
    exact ybN h
  | _=>cases hy
 | _=>cases hx
theorem keyV_eq {x y:Value} {k l:Key} (hx:zb9 x=some k) (hy:zb9 y=some l):SeqAt.EqAt A s x y (decide (k=l)):=by
 cases x with
 | int i t =>
  cases hx
  cases y with
  | int j u =>
   cases hy
   have:=zew (A:=A) (s:=s) (y := .int i) (x := .int j) ⟨t,rfl⟩ ⟨u,rfl⟩ rfl rfl
   rw [show eqV (.int i) (.int j)=decide ((.inl i:Key) = .inl j) by show (i == j)=_;by_cases e:i=j <;> simp [e]] at this
   exact this
  | str y u =>
   cases hy
   exact zew (A:=A) (s:=s) (y := .int i) (x := .str y) ⟨t,rfl⟩ ⟨u,rfl⟩ rfl rfl
  | _=>cases hy
 | str x t =>
  cases hx
  cases y with
  | int j u =>
   cases hy
   exact zew (A:=A) (s:=s) (y := .str x) (x := .int j) ⟨t,rfl⟩ ⟨u,rfl⟩ rfl rfl
  | str y u =>
   cases hy
   have:=zew (A:=A) (s:=s) (y := .str x) (x := .str y) ⟨t,rfl⟩ ⟨u,rfl⟩ rfl rfl
   rw [show eqV (.str x) (.str y)=decide ((.inr x:Key) = .inr y) by show (x == y)=_;by_cases e:x=y <;> simp [e]] at this
   exact this
  | _=>cases hy
 | _=>cases hx
end
theorem zbV:∀ {ks:List Bool} {a:List Key},zaF ks a=true→a.length=ks.length
 | [],[],_=>rfl
 | true :: ks,.inl _ :: a,h=>congrArg (· + 1) (zbV (ks:=ks) h)
 | false :: ks,.inr _ :: a,h=>congrArg (· + 1) (zbV (ks:=ks) h)
 | [],_ :: _,h=>nomatch h
 | _ :: _,[],h=>by cases ‹Bool› <;> cases h
 | true :: _,.inr _ :: _,h=>nomatch h
 | false :: _,.inl _ :: _,h=>nomatch h
theorem zjp:∀ {ks:List Bool} {x y:Key} {a b:List Key},zaF ks (x :: a)=true→zaF ks (y :: b)=true→zaF [x.isLeft] [y]=true∧∃ ks',zaF ks' a=true∧zaF ks' b=true
 | [],x,y,a,b,h,_=>nomatch h
 | true :: ks,.inl i,.inl j,a,b,h1,h2=>⟨rfl,ks,h1,h2⟩
 | false :: ks,.inr i,.inr j,a,b,h1,h2=>⟨rfl,ks,h1,h2⟩
 | true :: ks,.inl i,.inr j,a,b,h1,h2=>nomatch h2
 | false :: ks,.inr i,.inl j,a,b,h1,h2=>nomatch h2
 | true :: ks,.inr i,_,a,b,h1,h2=>nomatch h1
 | false :: ks,.inl i,_,a,b,h1,h2=>nomatch h1
theorem zdL:∀ {xs:List Value} {a:List Key},xs.mapM zb9=some a→Paired (fun v k=>zb9 v=some k) xs a
 | [],a,h=>by
  cases h
  exact .nil
 | x :: xs,a,h=>by
  rw [yeq] at h
  cases e:zb9 x with
  | none=>rw [e] at h;cases h
  | some k =>
   rw [e] at h
   cases e2:xs.mapM zb9 with
   | none=>rw [e2] at h;cases h
   | some l =>
    rw [e2] at h
    cases h
    exact .cons e (zdL e2)
section
variable {P:Program} {w:World} {A:Around} {E:Value→Shared→Prop} {s:Shared}
theorem zji {m:Bool} {b:Bool} {Q:Bool→Shared→Prop}:∀ {xs ys:List Value} {a c:List Key} {ks:List Bool} (n:Nat),Paired (fun v k=>zb9 v=some k) xs a→Paired (fun v k=>zb9 v=some k) ys c→zaF ks a=true→zaF ks c=true→(if a=c then Q m s else Q (zaP a c) s) →
  wpAny (model P w) A (do
   for ((p,q),i) in (xs.zip ys).zipIdx n do
    if !(← eqBool p q) then return ← oneLt' (b&&i == 0) p q
   return m) Q E s
 | _,_,_,_,ks,n,.nil,.nil,_,_,h=>by
  simp only [List.zip_nil_left,List.zipIdx_nil,yfq,pure_bind]
  rw [if_pos rfl] at h
  exact yaf h
 | _,_,_,_,ks,n,.nil,.cons _ _,h1,h2,_=>by
  have:=zbV h1
  have:=zbV h2
  simp at *
  omega
 | _,_,_,_,ks,n,.cons _ _,.nil,h1,h2,_=>by
  have:=zbV h1
  have:=zbV h2
  simp at *
  omega
 | x :: xs,y :: ys,k :: a,l :: c,ks,n,.cons e1 r1,.cons e2 r2,h1,h2,h=>by
  obtain ⟨al,ks',g1,g2⟩:=zjp h1 h2
  simp only [List.zip_cons_cons,List.zipIdx_cons,ydZ,bind_assoc]
  refine yac (keyV_eq e1 e2 P w _ _ ?_)
  by_cases e:k=l
  ·simp only [e,decide_true,yeJ,ya0,if_false,pure_bind]
   refine zji (n+1) r1 r2 g1 g2 ?_
   have sh:zaP (k :: a) (l :: c)=if k=l then zaP a c else ltKey k l:=rfl
   rw [sh,if_pos e] at h
   subst e
   by_cases z:a=c
   ·rw [if_pos z]
    rw [if_pos (by rw [z])] at h
    exact h
   ·rw [if_neg z]
    rw [if_neg (fun y=>z (ybY y).2)] at h
    exact h
  ·simp only [e,decide_false,Bool.not_false,if_true,bind_assoc,pure_bind]
   have sh:zaP (k :: a) (l :: c)=if k=l then zaP a c else ltKey k l:=rfl
   rw [sh,if_neg e,if_neg (fun y=>e (ybY y).1)] at h
   refine yac (oneLt_any e1 e2 al ?_)
   exact yaf h
theorem zct {h:Heap} {v:Value} {a:List Key} (e:zcb h v=some a):∃ p o items c,v = .ref p∧h.get? p=some o∧o.data = .seq items c∧o.cls = .type "tuple"∧items.toList.mapM zb9=some a:=by
 cases v with
 | ref p =>
  unfold zcb at e
  dsimp only at e
  cases ho:h.get? p with
  | none=>rw [ho] at e;cases e
  | some o =>
   rw [ho] at e
   dsimp only at e
   split at e
   ·rename_i items c hd
    split at e
    ·rename_i hc
     exact ⟨p,o,items,c,rfl,ho,hd,hc,e⟩
    ·cases e
   ·cases e
 | _=>cases e
theorem filter_some {α:Type} {o:Option α} {p:α→Bool} {a:α} (h:o.filter p=some a):o=some a∧p a=true:=by
 cases o with
 | none=>cases h
 | some b =>
  rw [Option.filter_some] at h
  split at h
  ·cases h
   exact ⟨rfl,by assumption⟩
  ·cases h
theorem lts_tup {ks:List Bool} (b:Bool):LtsAt (tupOrd s.heap ks) (tuples' b) P w A s:=by
 intro E x y a c Q hx hy q
 obtain ⟨kx,ox⟩:=filter_some hx
 obtain ⟨ky,oy⟩:=filter_some hy
 obtain ⟨p1,o1,i1,c1,rfl,g1,d1,_,m1⟩:=zct kx
 obtain ⟨p2,o2,i2,c2,rfl,g2,d2,_,m2⟩:=zct ky
 rw [zgO]
 refine yac (listItems_at g1 d1 ?_)
 refine yac (listItems_at g2 d2 ?_)
 have r1:=zdL m1
 have r2:=zdL m2
 have z:decide (i1.size < i2.size)=false:=by
  have l1:=r1.length
  have l2:=r2.length
  have l3:=zbV ox
  have l4:=zbV oy
  simp at *
  omega
 rw [z]
 refine zji 0 r1 r2 ox oy ?_
 have q:Q (zaP a c) s:=q
 by_cases e:a=c
 ·rw [if_pos e]
  rw [e,zdW] at q
  exact q
 ·rw [if_neg e]
  exact q
end
def zd9 (h:Heap):Value→Option Value
 | .ref p=>match h.get? p with
  | some o=>match o.data with
   | .seq items _=>items[0]?
   | _=>none
  | none=>none
 | _=>none
section
variable {P:Program} {w:World} {A:Around} {E:Value→Shared→Prop} {s:Shared}
theorem zia {α β:Type} {f:α→Sem β} {g:α→β}:∀ {l:List α} {Q:List β→Shared→Prop},(∀ x∈l,∀ Q':β→Shared→Prop,Q' (g x) s→wpAny (model P w) A (f x) Q' E s)→Q (l.map g) s→wpAny (model P w) A (l.mapM f) Q E s
 | [],Q,_,q=>by
  rw [List.mapM_nil]
  exact yaf q
 | x :: l,Q,h,q=>by
  rw [yeq]
  refine yac (h x yat _ ?_)
  refine yac (zia (fun y hy=>h y (yap _ hy)) ?_)
  exact yaf q
theorem zfM {k:Bool} {ks:List Bool} {v:Value} {a:List Key} {h:Heap} (e:(tupOrd h (k :: ks)).keyOf v=some a):∃ u,zd9 h v=some u∧((k=true∧∃ i t,u = .int i t)∨(k=false∧∃ x t,u = .str x t)):=by
 obtain ⟨ek,ok⟩:=filter_some e
 obtain ⟨p,o,items,c,rfl,g,d,_,m⟩:=zct ek
 have r:=zdL m
 unfold zd9
 dsimp only
 rw [g]
 dsimp only
 rw [d]
 dsimp only
 rw [← ybI]
 generalize items.toList=l at r
 cases r with
 | nil=>cases k <;> cases ok
 | cons eu r' =>
  rename_i u kk _ _
  refine ⟨u,rfl,?_⟩
  cases k with
  | true =>
   cases kk with
   | inr x=>cases ok
   | inl i =>
    cases u with
    | int j t=>exact .inl ⟨rfl,j,t,rfl⟩
    | str y t=>cases eu
    | _=>cases eu
  | false =>
   cases kk with
   | inl x=>cases ok
   | inr i =>
    cases u with
    | int j t=>cases eu
    | str y t=>exact .inr ⟨rfl,y,t,rfl⟩
    | _=>cases eu
theorem first_at {k:Bool} {ks:List Bool} {v:Value} {a:List Key} {Q:Option Value→Shared→Prop} (e:(tupOrd s.heap (k :: ks)).keyOf v=some a) (q:Q (zd9 s.heap v) s):wpAny (model P w) A (firstOfTuple' v) Q E s:=by
 obtain ⟨ek,ok⟩:=filter_some e
 obtain ⟨p,o,items,c,rfl,g,d,hc,m⟩:=zct ek
 show wpAny (model P w) A (do
  if (← typeOf (.ref p)) != .type "tuple" then return none
  return (← yd9 (.ref p))[0]?) Q E s
 refine yac (ycR (T := "tuple") ⟨o,g,hc⟩ ?_)
 simp only [bne_self_eq_false,ya0,if_false]
 refine yac (listItems_at g d (yaf ?_))
 unfold zd9 at q
 dsimp only at q
 rw [g] at q
 dsimp only at q
 rw [d] at q
 exact q
theorem kind_at {k:Bool} {ks:List Bool} {v₁:Value} {vs:List Value} {Q:SortKind→Shared→Prop} (h0:∀ v∈v₁ :: vs,∃ a,(tupOrd s.heap (k :: ks)).keyOf v=some a) (q:Q (tuples' true) s):wpAny (model P w) A (keyKind' (v₁ :: vs).toArray) Q E s:=by
 rw [keyKind'_eq,List.mapM_toArray,bind_map_left]
 refine yac (zia (g:=zd9 s.heap) (fun v hv Q' q'=>let ⟨a,e⟩:=h0 v hv;first_at e q') ?_)
 have al:((v₁ :: vs).map (zd9 s.heap)).toArray.all (·.isSome)=true:=by
  rw [List.all_toArray,ycw,yaP]
  intro v hv
  obtain ⟨a,e⟩:=h0 v hv
  obtain ⟨u,eu,_⟩:=zfM e
  show (zd9 s.heap v).isSome=true
  rw [eu]
  rfl
 rw [if_pos al]
 refine yac (ycr ?_)
 obtain ⟨us,eus,hus⟩:∃ us:List Value,(v₁ :: vs).map (zd9 s.heap)=us.map some∧∀ u∈us,((k=true∧∃ i t,u = .int i t)∨(k=false∧∃ x t,u = .str x t)):=by
  clear al q
  generalize v₁ :: vs=l at h0
  induction l with
  | nil=>exact ⟨[],rfl,(fun _ z=>nomatch z)⟩
  | cons v l ih =>
   obtain ⟨a,e⟩:=h0 v yat
   obtain ⟨u,eu,ku⟩:=zfM e
   obtain ⟨us,e2,k2⟩:=ih fun x hx=>h0 x (yap _ hx)
   refine ⟨u :: us,by rw [yan,yan,eu,e2],fun x hx => ?_⟩
   rcases yaN.mp hx with z | z
   ·rw [z];exact ku
   ·exact k2 x z
 rw [eus]
 have fm:(us.map some).toArray.filterMap id=us.toArray:=by simp
 rw [fm,oneTypeOnly'_eq,List.mapM_toArray,bind_map_left,bind_assoc]
 have ne:us ≠ []:=by
  intro z
  rw [z] at eus
  cases eus
 have ty:∀ u∈us,∀ Q':Value→Shared→Prop,Q' (.type (if k=true then "int" else "str")) s→wpAny (model P w) A (typeOf u) Q' E s:=by
  intro u hu Q' q'
  rcases hus u hu with ⟨hk,i,t,rfl⟩ | ⟨hk,i,t,rfl⟩
  ·subst hk
   exact ycR (T := "int") rfl q'
  ·subst hk
   exact ycR (T := "str") rfl q'
 refine yac (zia (g:=fun _ => .type (if k=true then "int" else "str")) ty ?_)
 obtain ⟨u,us',rfl⟩:∃ u us',us=u :: us':=by
  cases us with
  | nil=>exact absurd rfl ne
  | cons u us'=>exact ⟨u,us',rfl⟩
 have h1:(List.map (fun _=>ybQ (if k=true then "int" else "str")) (u :: us')).toArray[0]? = some (.type (if k=true then "int" else "str")):=by simp
 have h2:((List.map (fun _=>ybQ (if k=true then "int" else "str")) (u :: us')).toArray.all fun x=>x == .type (if k=true then "int" else "str"))=true:=by
  rw [List.all_toArray,ycw,yaP]
  intro x _
  exact beq_self_eq_true _
 rw [h1]
 dsimp only
 rw [h2,if_pos rfl]
 refine yac (yaf (yaf ?_))
 rw [show (Option.any (fun x=>x != ybQ "tuple") (some (.type (if k=true then "int" else "str"))))=true by cases k <;> decide]
 exact q
end
def Rises (xs:Array Nat):Prop:=∀ i k (h1:i < k) (h2:k < xs.size),xs[i]'(Nat.lt_trans h1 h2) < xs[k]
theorem rises_list {xs:Array Nat}:Rises xs↔xs.toList.Pairwise (· < ·):=by
 rw [List.pairwise_iff_getElem]
 constructor
 ·intro h i j h1 h2 l
  have:=h i j l (by simpa using h2)
  simpa using this
 ·intro h i k h1 h2
  have:=h i k (by simp;omega) (by simpa using h2) h1
  simpa using this
theorem zgq {xs:Array Nat} {j:Nat} (hs:Rises xs):∀ (fuel lo hi:Nat),hi≤xs.size→lo≤hi→hi - lo≤fuel→(∀ i (h:i < xs.size),i < lo→xs[i] < j)→(∀ i (h:i < xs.size),hi≤i→j≤xs[i]) →
  yc7 xs j fuel lo hi≤xs.size∧(∀ i (h:i < xs.size),i < yc7 xs j fuel lo hi→xs[i] < j)∧(∀ i (h:i < xs.size),yc7 xs j fuel lo hi≤i→j≤xs[i])
 | 0,lo,hi,h1,h2,h3,h4,h5=>by
  have e:lo=hi:=by omega
  unfold yc7
  exact ⟨by omega,h4,fun i h z=>h5 i h (by omega)⟩
 | fuel+1,lo,hi,h1,h2,h3,h4,h5=>by
  unfold yc7
  by_cases l:lo < hi
  ·rw [if_pos l]
   have hm:(lo+hi) / 2 < xs.size:=by omega
   dsimp only
   have eg:xs.getD ((lo+hi) / 2) j=xs[(lo+hi) / 2]:=by simp [Array.getD,hm]
   rw [eg]
   by_cases c:xs[(lo+hi) / 2] < j
   ·rw [if_pos c]
    refine zgq hs fuel _ hi h1 (by omega) (by omega) (fun i h z => ?_) h5
    rcases ybC i ((lo+hi) / 2) with y | y
    ·exact Nat.lt_trans (hs i _ y hm) c
    ·have:i=(lo+hi) / 2:=by omega
     subst this
     exact c
   ·rw [if_neg c]
    refine zgq hs fuel lo _ (by omega) (by omega) (by omega) h4 (fun i h z => ?_)
    rcases ybC ((lo+hi) / 2) i with y | y
    ·exact ybs (ydi (ydL c) (hs _ i y h))
    ·have:i=(lo+hi) / 2:=by omega
     subst this
     exact ydL c
  ·rw [if_neg l]
   exact ⟨by omega,h4,fun i h z=>h5 i h (by omega)⟩
theorem zfS {xs:Array Nat} (hs:Rises xs) (j:Nat):yaZ xs j≤xs.size∧(∀ i (h:i < xs.size),i < yaZ xs j→xs[i] < j)∧(∀ i (h:i < xs.size),yaZ xs j≤i→j≤xs[i]) :=
 zgq hs xs.size 0 xs.size (yag _) (ya2 _) (by omega) (fun i h z=>absurd z (ycj _)) fun i h z=>absurd h (yeP.mpr z)
theorem zjn {xs:Array Nat} (hs:Rises xs):yaZ xs 0=0:=by
 obtain ⟨a,b,c⟩:=zfS hs 0
 rcases yd4 (yaZ xs 0) with z | z
 ·exact z
 ·exact absurd (b 0 (by omega) z) (ycj _)
theorem zjS {xs:Array Nat} (hs:Rises xs) {i:Nat} (h:i < xs.size):yaZ xs (xs[i]+1)=i+1:=by
 obtain ⟨a,b,c⟩:=zfS hs (xs[i]+1)
 rcases ybC i (yaZ xs (xs[i]+1)) with z | z
 ·rcases ybC (i+1) (yaZ xs (xs[i]+1)) with y | y
  ·have h1:=b (i+1) (by omega) y
   have h2:=hs i (i+1) (ybh _) (by omega)
   omega
  ·omega
 ·have:=c i h z
  omega
theorem zhi {xs:Array Nat} (hs:Rises xs) {j:Nat} (nj:xs[yaZ xs j]?≠some j):Rises (yc4 xs (yaZ xs j) j):=by
 obtain ⟨a,b,c⟩:=zfS hs j
 have hl:=rises_list.mp hs
 rw [rises_list,SetTable.toList_insertAt]
 generalize hp:yaZ xs j=p at *
 have lo:∀ x∈xs.toList.take p,x < j:=fun x hx=>by
  obtain ⟨i,hi,e⟩:=ydG.mp hx
  have h1:i < xs.size:=by simp at hi;omega
  have:=b i h1 (by simp at hi;omega)
  rw [← e]
  simpa using this
 have hi:∀ x∈xs.toList.drop p,j < x:=fun x hx=>by
  obtain ⟨i,hi,e⟩:=List.mem_drop_iff_getElem.mp hx
  have h1:p+i < xs.size:=by simp at hi;omega
  have h2:=c (p+i) h1 (by omega)
  have h3:xs[p+i]≠j:=by
   rcases yd4 i with z | z
   ·subst z
    intro e
    exact nj (by rw [yb6 (by omega)];exact congrArg some e)
   ·have h4:=c p (by omega) (yag _)
    have h5:=hs p (p+i) (by omega) h1
    omega
  rw [← e]
  simp only [Array.getElem_toList]
  omega
 have tk:(xs.toList.take p).Pairwise (· < ·):=hl.sublist (yfB _ _)
 have dr:(xs.toList.drop p).Pairwise (· < ·):=hl.sublist (List.drop_sublist _ _)
 refine List.pairwise_append.mpr ⟨tk,List.pairwise_cons.mpr ⟨hi,dr⟩,fun x hx y hy => ?_⟩
 rcases yaN.mp hy with e | hy
 ·rw [e];exact lo x hx
 ·exact Nat.lt_trans (lo x hx) (hi y hy)
def Free (t:SetTable) (j:Nat):Prop:=t.place[yaZ t.place j]?≠some j
theorem zhI {t:SetTable} {j:Nat} (h:∀ i,t.slot j ≠ .live i):Free t j:=by
 intro e
 refine h (yaZ t.place j) ?_
 unfold SetTable.slot
 dsimp only
 rw [if_pos (by rw [e];exact beq_self_eq_true _)]
theorem zdI (t:SetTable) (p:SetTable.Probe):(t.advance p).dummy=p.dummy:=by
 unfold SetTable.advance
 split <;> rfl
theorem zdX {t:SetTable} {f:Nat→Int} {h:Int}:∀ (fuel:Nat) (p:SetTable.Probe) {j:Nat} {d:Option Nat},yc3 t f h fuel p=some (.empty j d)→(∀ x,p.dummy=some x→Free t x)→Free t j∧∀ x,d=some x→Free t x
 | 0,p,j,d,e,hd=>by cases e
 | fuel+1,p,j,d,e,hd=>by
  unfold yc3 at e
  cases es:t.slot p.j with
  | empty =>
   rw [es] at e
   cases e
   exact ⟨zhI (fun i z=>by rw [es] at z;cases z),hd⟩
  | dummy =>
   rw [es] at e
   refine zdX fuel _ e fun x hx => ?_
   rw [zdI] at hx
   cases hx
   exact zhI fun i z=>by rw [es] at z;cases z
  | live i =>
   rw [es] at e
   dsimp only at e
   split at e
   ·cases e
   ·refine zdX fuel _ e fun x hx => ?_
    rw [zdI] at hx
    exact hd x hx
theorem zgr {t:SetTable} {h:Int} {j:Nat} {b:Bool} (e:t.freeSlot h=some (j,b)):Free t j:=by
 unfold SetTable.freeSlot at e
 split at e
 ·rename_i j' d hp
  obtain ⟨a,c⟩:=zdX _ _ hp (fun x hx=>by cases hx)
  have e:=(Prod.mk.inj (yas e)).1
  cases d with
  | none=>rw [← e];exact a
  | some x=>rw [← e];exact c x rfl
 ·cases e
theorem zbZ (t:SetTable) (n:Nat):Rises (t.standIn n).place:=by
 rw [rises_list]
 show (Array.range n).toList.Pairwise (· < ·)
 rw [Array.toList_range]
 exact List.pairwise_lt_range
theorem zhE {t:SetTable} (hs:Rises t.place) (es:Array (Int×Value)) (h:Int) (x:Value):Rises (layNew t es h x).2.1.place:=by
 unfold layNew
 split
 ·rename_i slot wd e
  dsimp only
  unfold SetTable.orStandIn
  split
  ·exact zhi hs (zgr e)
  ·exact zbZ _ _
 ·exact zbZ _ _
theorem zeH {g:Nat→Option Nat}:∀ l:List Nat,(l.filterMap fun j=>(g j).map (j,·)).map (·.1)=l.filter fun j=>(g j).isSome
 | []=>rfl
 | x :: l=>by
  cases e:g x with
  | none =>
   rw [List.filterMap_cons_none (by rw [e];rfl),List.filter_cons_of_neg (by rw [e];decide)]
   exact zeH l
  | some y =>
   rw [List.filterMap_cons_some (b:=(x,y)) (by rw [e];rfl),List.filter_cons_of_pos (by rw [e];rfl),yan,zeH l]
theorem zfg {t:SetTable} (es:Array (Int×Value)) (n:Nat):Rises (ydN t es n).2.1.place:=by
 unfold ydN
 split
 ·rename_i t' order e
  have el:Rises t'.place:=by
   unfold SetTable.relaid SetTable.laid at e
   cases hl:SetTable.layClean (SetTable.sizeAbove n - 1) (es.map (·.1)) with
   | none=>rw [hl] at e;cases e
   | some owner =>
    rw [hl] at e
    have e:=yas e
    rw [← (Prod.mk.inj e).1]
    rw [rises_list]
    dsimp only
    rw [zeH]
    exact List.pairwise_lt_range.filter _
  dsimp only
  split
  ·exact el
  ·exact zbZ _ _
 ·exact zbZ _ _
section
variable {prog:Program} {w:World} {A:Around} {E:Value→Shared→Prop} {s:Shared} {it a:Addr} {i n ep:Nat} {o:Obj} {es:Array (Int×Value)} {t:SetTable}
theorem ziv {slot:Nat} {Q:Option (Value×Nat)→Shared→Prop} (bt:w.params.followText "set-order" = false) (ho:s.heap.get? a=some o) (hd:o.data = .set es ep t) (hf:t.fits es.size=true)
  (hs:t.plain=true) (hl:t.led=true)
  (h:Q (match es[yaZ t.place slot]?,t.place[yaZ t.place slot]? with | some (_,x),some j=>some (x,j+1) | _,_=>none) s):wpAny (model prog w) A (yfs a slot i ep) Q E s:=by
 unfold yfs yeO
 refine yac (ybl ho hd hf ?_)
 dsimp only
 refine yac (yac (ycn (yaf ?_)))
 refine zbm (by rw [show (model prog w).w=w from rfl,bt];exact yaK) ?_
 refine zbm (show ¬ ((!t.plain&&decide (es.size > 1))=true) by rw [hs];simp) ?_
 refine yac (zbm (show ¬ ((!t.led && !es.isEmpty)=true) by simp [hl]) (yaf ?_))
 exact yaf h
theorem zic (hp:t.plain=true) {Q:Bool→Shared→Prop} (ho:s.heap.get? a=some o) (hd:o.data = .set es ep t) (hf:t.fits es.size=true) (h:Q false s):wpAny (model prog w) A (setDrawn a) Q E s:=by
 unfold setDrawn yeO
 refine yac (ybl ho hd hf ?_)
 dsimp only
 refine yac (yac (ycn (yaf ?_)))
 refine yaf ?_
 have e2:Q (!(w.params.followText "set-order")&&(!t.plain&&decide (es.size > 1))) s:=by
  rw [hp,show (!(w.params.followText "set-order")&&(!true&&decide (es.size > 1)))=false by simp]
  exact h
 exact e2
theorem set_iterP {Q:Value→Shared→Prop} (ho:s.heap.get? a=some o) (hex:o.ExactSet) (hd:o.data = .set es ep t) (hf:t.fits es.size=true) (hl:t.led = !(w.params.followText "set-order")) (hp:t.plain=true) (hr:Rises t.place)
  (hQ:∀ I h' d,(∀ A':Around,A'.handled=none→SetWalk prog w A' s a es I h')→Q (.ref I) { s with heap:=h',drawn:=d }):wpAny (model prog w) A (pyIter (.ref a)) Q E s:=by
 have hT:s.TypeIs (.ref a) "set":=⟨o,ho,hex.1⟩
 have lt:=yak ho
 refine wpAny_pyIter_slot hT ye0 (ybq ye0 hT zdm ?_ (F.args_set_iter_1 _))
 unfold Builtin.«frozenset.__iter__» Builtin.Frozenset.slot0 slotArgs
 simp only [List.isEmpty_nil,yeJ,ya0,↓reduceIte,bind_assoc,ya5,bne_self_eq_false]
 unfold Builtin.Frozenset.addrOf Builtin.Frozenset.sizeOf
 refine yac (yaf ?_)
 try dsimp only
 refine yac (yaf ?_)
 refine yac (yac (ycM ho hd hf (yaf ?_)))
 refine yac (zic hp ho hd hf ?_)
 refine zbm yaK ?_
 have intMode:∀ (vs:List Value) (slots:Nat→Nat),slots 0=0→vs.Perm (es.toList.map (·.2))→(∀ (s:Shared) (A':Around) (E':Value→Shared→Prop) (Q':Option (Value×Nat)→Shared→Prop) (i:Nat),i≤vs.length→s.heap.get? a=some o→Q' ((vs[i]?).map fun v=>(v,slots (i+1))) s→wpAny (model prog w) A' (yfs a (slots i) i ep) Q' E' s) →
   Q (.ref s.heap.objs.size) { s with heap:=s.heap.push (sitO (.int 0 0) 0 a es.size ep) }:=by
  intro vs slots s0 pv nxt
  refine hQ _ _ s.drawn fun A' hh=>⟨fun b o e=>yad _ e,by rw [ybd];exact ycA _,yag _,vs,_,_,pv,zht hh (yaF lt) slots hd hf (by rw [pv.length_eq];simp) nxt,⟨?_,yad _ ho⟩,?_⟩
  ·rw [s0]
   exact yai _ rfl
  ·intro b hb
   rcases yaN.mp hb with hb | hb
   ·exact .inr ⟨by rw [hb];exact yag _,by rw [hb,ybd];exact ybh _⟩
   ·exact .inl (ya4.mp hb)
 refine yac (yaf ?_)
 refine yac (wpAny_setEpoch_of ho hd hf ?_)
 refine yac (ybu ?_ (by size_fits))
 refine yaf ⟨_,rfl, "set_iterator",_,⟨_,yai _ rfl,rfl⟩,slot_sit_next.lookup,?_⟩
 cases bt:w.params.followText "set-order" with
 | true =>
  refine intMode ((yfK (w.params.setOrder a ep) es).toList.map (·.2)) (fun _=>0) rfl ((zgL _ _).map _) fun s1 A' E' Q' i hi h1 q => ?_
  refine zgY bt h1 hd hf ?_
  rw [← ybI,map_at]
  exact q
 | false =>
  rw [bt] at hl
  have hsz:t.place.size=es.size:=by
   simp only [SetTable.fits,yaL,beq_iff_eq,decide_eq_true_eq] at hf
   exact hf.1
  refine intMode (es.toList.map (·.2)) (fun i=>if i=0 then 0 else t.place.getD (i - 1) 0+1) rfl (.refl _) fun s1 A' E' Q' i hi h1 q => ?_
  refine ziv bt h1 hd hf hp (by rw [hl];rfl) ?_
  have hi:i≤es.size:=by simpa using hi
  have bl:yaZ t.place (if i=0 then 0 else t.place.getD (i - 1) 0+1)=i:=by
   rcases yd4 i with z | z
   ·rw [if_pos z,zjn hr,z]
   ·have hb:i - 1 < t.place.size:=by omega
    rw [if_neg (by omega),show t.place.getD (i - 1) 0=t.place[i - 1] by simp [Array.getD,hb],zjS hr hb]
    omega
  rw [bl]
  rcases ybC i es.size with z | z
  ·have hb:i < t.place.size:=by omega
   rw [yb6 z,yb6 hb]
   dsimp only at q ⊢
   rw [if_neg (by omega),show i+1 - 1=i from rfl,show t.place.getD i 0=t.place[i] by simp [Array.getD,hb],yae,yab (by simpa using z)] at q
   simpa using q
  ·rw [Array.getElem?_eq_none (by omega)]
   rw [yae,ybT (by simpa using z)] at q
   exact q
theorem set_iterR {Q:Value→Shared→Prop} (ho:s.heap.get? a=some o) (hex:o.ExactSet) (hd:o.data = .set es ep t) (hf:t.fits es.size=true) (hl:t.led = !(w.params.followText "set-order")) (hr:Rises t.place) (hb:es.size < ybZ)
  (hQ:∀ I h' d,(∀ A':Around,A'.handled=none→SetWalk prog w A' s a es I h')→Q (.ref I) { s with heap:=h',drawn:=d }):wpAny (model prog w) A (pyIter (.ref a)) Q E s:=by
 cases hp:t.plain
 ·exact ziI ho hex hd hf hl (fun _=>hp) hb hQ
 ·exact set_iterP ho hex hd hf hl hp hr hQ
end
section
variable {prog:Program} {w:World} {A:Around} {E:Value→Shared→Prop} {s:Shared} {a:Addr} {ep:Nat} {o:Obj} {es:Array (Int×Value)} {t:SetTable}
theorem zh7 {R:Result→Shared→Prop} (hh:A.handled=none) (ho:s.heap.get? a=some o) (hex:o.ExactSet) (hd:o.data = .set es ep t) (hf:t.fits es.size=true) (hl:t.led = !(w.params.followText "set-order")) (hp:Rises t.place) (hb:es.size < ybZ)
  (S:Addr) (hSa:S≠a) (res:Value) (hS:s.heap.get? S=some { cls := .type "list",data := .seq #[] 0 })
  (hR:∀ h' tk d vs c',(∀ b o,b≠S→s.heap.get? b=some o→h'.get? b=some o)→h'.get? S=some { cls := .type "list",dict:=none,data := .seq vs c',slots := #[] }→vs.toList.Perm (es.toList.map (·.2))→R (.ok (.ret res)) { s with heap:=h',toks:=tk,drawn:=d }) :
  wpAny (model prog w) A.in1 (ybD (.ref S) (.ref a) res)
   (fun fin s'=>match fin with | .done f=>R (.ok f) s' | .again c'=>c'.quiet=true∧ydB (model prog w) A c' R s') (fun e s'=>R (.error e) s') s:=by
 have hT:s.TypeIs (.ref a) "set":=⟨o,ho,hex.1⟩
 have ltS:=yak hS
 unfold ybD
 refine yac (ycR (T := "set") hT ?_)
 have h1:yc8 (.ref S) (.ref a)=false:=by simp [yc8,hSa]
 simp only [h1,show (ybQ "set" == ybQ "list")=false by decide,show (ybQ "set" == ybQ "tuple")=false by decide,Bool.or_false,ya0,if_false]
 refine yac (set_iterR ho hex hd hf hl hp hb fun I h' d sw => ?_)
 obtain ⟨ext,size,new,vs,fp,St,pv,W,st,hfp⟩:=sw A.in1 hh
 have hSf:S∉fp:=fun hm=>by
  rcases hfp S hm with e | e
  ·exact hSa e
  ·exact absurd ltS (yeP.mpr e.1)
 have hSI:S≠I:=fun e=>absurd ltS (by rw [e];exact yeP.mpr new)
 have hn:vs.length≤yaW:=by
  rw [pv.length_eq,yaa,yaO]
  exact ya1 (ybs hb) (by decide)
 have key:∀ (h:Heap) (c₁ tk:Nat),St 0 h→(∀ b o,b≠S→s.heap.get? b=some o→h.get? b=some o) →
   h.get? S=some { cls := .type "list",data := .seq #[] c₁ }→ydB (model prog w) A (.builtin "list.extend.loop" ⟨[.ref S,.ref I,res],[]⟩) R { s with heap:=h,toks:=tk,drawn:=d }:=by
  intro h c₁ tk hst hk hS₁
  refine codeAny_extend_loopS W.toS hn S hSf res vs.length 0 _ #[] c₁ rfl (ya2 _) hst hS₁ (ItemsOf.nil _) fun s' acc' c' hm hS' hacc => ?_
  rw [Moved.eq_with hm]
  have ea:acc'.toList=vs:=by
   refine yfP fun i => ?_
   rcases ybC i acc'.size with hi | hi
   ·have:=hacc.2 i acc'[i] (by simp [hi])
    rw [this,ybI]
    simp [hi]
   ·have l:=hacc.1
    rw [ybT (by simpa using hi),ybT (by rw [← l];exact hi)]
  refine hR s'.heap s'.toks d acc' c' (fun b o hb e=>hm.heap b o (fun hmem => ?_) (hk b o hb e)) hS' (by rw [ea];exact pv)
  rcases yaN.mp hmem with e' | hmem
  ·exact hb e'
  ·exact absurd (yak e) (by rw [ya4.mp hmem];exact yeP.mpr new)
 have hS₁:=ext S _ hS
 refine yac (ya9 (ziN ⟨o,ext _ _ ho,hex.1⟩ ?_))
 refine ydn (fun _ => ?_) (fun _=>yaf ⟨yck ycX _,key _ 0 _ st (fun b o _ e=>ext _ _ e) hS₁⟩)
 refine yac (ycr ?_)
 refine yac ?_
 show wpAny _ _ (updateSeq S (·.push .none) >>= fun _=>updateSeq S (·.pop)) _ _ _
 refine yac (ye2 hS₁ rfl ?_)
 have hS₂:=ybS (ycq (·.push ycy)) hS₁ rfl
 refine ye2 (hz:=by seq_fits) hS₂ rfl ?_
 have hS₃:=ybS (ycq (·.pop)) hS₂ rfl
 have oth:∀ b o,b≠S→h'.get? b=some o→((h'.update S (ycq (·.push ycy))).update S (ycq (·.pop))).get? b=some o:=fun b o hb e=>(ybP _ _ (yco hb)).trans ((ybP _ _ (yco hb)).trans e)
 refine yaf ⟨yck ycX _,key _ _ _ ?_ (fun b o hb e=>oth b o hb (ext b o e)) hS₃⟩
 exact W.frame 0 _ _ st fun b hb o e=>oth b o (fun z=>hSf (z ▸ hb)) e
theorem zgB {Q:List Value→Shared→Prop} (hh:A.handled=none) (ho:s.heap.get? a=some o) (hex:o.ExactSet) (hd:o.data = .set es ep t) (hf:t.fits es.size=true) (hl:t.led = !(w.params.followText "set-order")) (hp:Rises t.place) (hb:es.size < ybZ)
  (hQ:∀ h' tk d vs,s.heap.objs.size≤h'.objs.size→(∀ b o,s.heap.get? b=some o→h'.get? b=some o)→vs.Perm (es.toList.map (·.2))→Q vs { s with heap:=h',toks:=tk,drawn:=d }):wpAny (model prog w) A (collect (.ref a)) Q E s:=by
 have hlt:=yak ho
 unfold collect
 refine yac (yem (ybx yey ?_))
 rw [ybi yez _]
 show wpAny _ A.in1 (newList [] >>= fun l=>again (.builtin "list.__iadd__" ⟨[l,.ref a],[]⟩)) _ _ s
 refine yac (ybu ?_)
 refine yaf ⟨yck yc6 _,ybx F.entry_list_iadd ?_⟩
 rw [ybi yc6 _]
 have hS:(s.heap.push { cls := .type "list",data := .seq ([]:List Value).toArray }).get? s.heap.objs.size=some { cls := .type "list",data := .seq #[] }:=yai _ rfl
 show wpAny _ A.in1 (ybD (.ref s.heap.objs.size) (.ref a) (.ref s.heap.objs.size)) _ _ _
 let R:Result→Shared→Prop:=fun res s'=>∃ (h':Heap) (tk:Nat) (d:Drawn) (acc:Array Value) (c:Nat),res = .ok (.ret (.ref s.heap.objs.size))∧s' = { s with heap:=h',toks:=tk,drawn:=d }∧(∀ b o,s.heap.get? b=some o→h'.get? b=some o)∧h'.get? s.heap.objs.size=some { cls := .type "list",dict:=none,data := .seq acc c,slots := #[] }∧acc.toList.Perm (es.toList.map (·.2))
 refine ycb (zh7 (A:=A) (R:=R) (s:={ s with heap:=s.heap.push { cls := .type "list",data := .seq ([]:List Value).toArray } }) hh (yad _ ho) hex hd hf hl hp hb s.heap.objs.size (ycc hlt) (.ref s.heap.objs.size) hS (fun h' tk d acc' c' hk hS' hacc=>⟨h',tk,d,acc',c',rfl,rfl,fun b o e=>hk b o (yaF (yak e)) (yad _ e),hS',hacc⟩)) (fun f s' hf => ?_) (fun e s' he => ?_)
 ·cases f with
  | done fl =>
   obtain ⟨h',tk,d,acc,c,e,rfl,kp,hS',it⟩:=hf
   cases e
   exact yac (yeN hS' (yaf (hQ h' tk d acc.toList (ybs (yak hS')) kp it)))
  | again c' =>
   refine ⟨hf.1,ycE hf.2 fun res s2 hr => ?_⟩
   obtain ⟨h',tk,d,acc,c,e,rfl,kp,hS',it⟩:=hr
   cases e
   exact yac (yeN hS' (yaf (hQ h' tk d acc.toList (ybs (yak hS')) kp it)))
 ·obtain ⟨_,_,_,_,_,z,_⟩:=he
  cases z
end
structure NmSet (P:Program) (w:World) (h:Heap) (a:Addr) (ks:List Int):Prop where
 ex:∃ (o:Obj) (es:Array (Int×Value)) (ep:Nat) (t:SetTable) (ord:List Int),h.get? a=some o∧o.ExactSet∧o.data = .set es ep t∧ElemsOf (ybM P w) es.toList∧IntsAre (es.toList.map (·.2)) ord∧ord.Perm ks∧es.size < ybZ∧t.fits es.size=true∧t.led=ledBy w∧Rises t.place
 nd:ks.Nodup
theorem num_is {P:Program} {w:World} {k:Int} {v:Value} (h:(ybM P w).is k v=true):∃ t,v = .int k t:=Value.isInt_shape h
theorem is_num {P:Program} {w:World} (k:Int) (t:Tok):(ybM P w).is k (.int k t)=true:=by
 exact intKind_is P w k t
theorem zeS:∀ {vs vs':List Value},vs.Perm vs'→∀ {ks:List Int},IntsAre vs' ks→∃ ks',IntsAre vs ks'∧ks'.Perm ks:=by
 intro vs vs' p
 induction p with
 | nil=>intro ks h;exact ⟨ks,h,.refl _⟩
 | cons x _ ih =>
  intro ks h
  cases h with
  | cons k t r =>
   obtain ⟨ks',h1,h2⟩:=ih r
   exact ⟨k :: ks',.cons k t h1,h2.cons k⟩
 | swap x y l =>
  intro ks h
  cases h with
  | cons k t r =>
   cases r with
   | cons k2 t2 r2=>exact ⟨k2 :: k :: _,.cons k2 t2 (.cons k t r2),.swap k k2 _⟩
 | trans _ _ ih1 ih2 =>
  intro ks h
  obtain ⟨k1,a1,a2⟩:=ih2 h
  obtain ⟨k2,b1,b2⟩:=ih1 a1
  exact ⟨k2,b1,b2.trans a2⟩
theorem zhu:∀ {vs:List Value} {ks:List Int} (k:Int) (t:Tok),IntsAre vs ks→IntsAre (vs ++ [.int k t]) (ks ++ [k])
 | _,_,k,t,.nil => .cons k t .nil
 | _,_,k,t,.cons k' t' r => .cons k' t' (zhu k t r)
section
variable {P:Program} {w:World} {A:Around} {E:Value→Shared→Prop} {s:Shared}
theorem zi6 {h:Heap} {a:Addr} {o:Obj} {es es':Array (Int×Value)} {ep:Nat} {t t':SetTable} {ks ord:List Int} (ho:h.get? a=some o) (hex:o.ExactSet) (hd:o.data = .set es ep t) (hel:ElemsOf (ybM P w) es'.toList) (ha:IntsAre (es'.toList.map (·.2)) ord) (hp:ord.Perm ks) (nd:ks.Nodup)
  (hb:es'.size < ybZ) (hf:t'.fits es'.size=true) (hl:t'.led=ledBy w) (hpl:Rises t'.place) :
  (h.update a (yc5 es' t')).get? a=some { o with data := .set es' (ep+1) t' }∧NmSet P w (h.update a (yc5 es' t')) a ks:=by
 have hg:(h.update a (yc5 es' t')).get? a=some { o with data := .set es' (ep+1) t' }:=by
  have:=ybS (yc5 es' t') ho (by rw [yfF es' t' hd];rfl)
  rw [yfF es' t' hd] at this;exact this
 exact ⟨hg,⟨_,es',ep+1,t',ord,hg,hex,rfl,hel,ha,hp,hb,hf,hl,hpl⟩,nd⟩
theorem nm_tail {g:Bool→Sem Unit} (hg:∀ (b:Bool) (s₁:Shared) (Q':Unit→Shared→Prop),Q' () s₁→wpAny (model P w) A (g b) Q' E s₁)
  {a:Addr} {o:Obj} {es es1:Array (Int×Value)} {ep:Nat} {t t2:SetTable} {ks ord:List Int} (ho:s.heap.get? a=some o) (hex:o.ExactSet) (hd:o.data = .set es ep t) (hel1:ElemsOf (ybM P w) es1.toList) (ha:IntsAre (es1.toList.map (·.2)) ord) (hp:ord.Perm ks) (nd:ks.Nodup)
  (hb1:es1.size < ybZ) (hf2:t2.fits es1.size=true) (hl:t2.led=ledBy w) (hpl:Rises t2.place) {wasDummy:Bool} {R:Option Bool→Shared→Prop}
  (h:∀ h',Heap.SameBut a s.heap h'→NmSet P w h' a ks→R (some true) { s with heap:=h' }) :
  wpAny (model P w) A (do
    storeSet a es1 t2
    if (!wasDummy&&t2.tooFull)=true then do
      g (ydN t2 es1 (ybB es1.size)).2.2
      storeSet a (ydN t2 es1 (ybB es1.size)).1 (ydN t2 es1 (ybB es1.size)).2.1
      pure (some true)
     else pure (some true)) R E s:=by
 refine yac (ydu ho hd ?_ (yeh hb1))
 obtain ⟨ho1,hS1⟩:=zi6 (P:=P) (w:=w) ho hex hd hel1 ha hp nd hb1 hf2 hl hpl
 have hsb1:=ydc s.heap a (yc5 es1 t2)
 split
 ·have pp:=relayAll_perm t2 es1 (ybB es1.size)
  have hfr:=relayAll_fits t2 es1 (ybB es1.size)
  have fl:=(zd8 t2 es1 (ybB es1.size)).1
  have fr:=zfg (t:=t2) es1 (ybB es1.size)
  generalize hRl:ydN t2 es1 (ybB es1.size)=Rl at pp hfr fl fr ⊢
  obtain ⟨es2,t3,gave2⟩:=Rl
  dsimp only at pp hfr fl fr ⊢
  have hel2:ElemsOf (ybM P w) es2.toList:=hel1.perm pp
  obtain ⟨ord2,ha2,hp2⟩:=zeS (pp.map (·.2)) ha
  have hsz:es2.size=es1.size:=by rw [← yaO,pp.length_eq,yaO]
  have hb2:es2.size < ybZ:=by rw [hsz];exact hb1
  refine yac (hg _ _ _ ?_)
  refine yac (ydu ho1 rfl ?_ (yeh hb2))
  obtain ⟨_,hS2⟩:=zi6 (P:=P) (w:=w) ho1 hex rfl hel2 ha2 (hp2.trans hp) nd hb2 hfr (fl.trans hl) fr
  exact yaf (h _ (hsb1.trans (ydc _ a _)) hS2)
 ·exact yaf (h _ hsb1 hS1)
theorem zjh:∀ {vs:List Value} {ks:List Int},IntsAre vs ks→∀ k,k∈ks↔∃ t,ycY k t∈vs
 | _,_,.nil,k=>⟨(fun h=>nomatch h),(by rintro ⟨_,h⟩;exact nomatch h)⟩
 | _,_,.cons k' t' r,k=>by
  rw [yaN,zjh r k]
  constructor
  ·rintro (rfl | ⟨t,h⟩)
   ·exact ⟨t',yat⟩
   ·exact ⟨t,yap _ h⟩
  ·rintro ⟨t,h⟩
   rcases yaN.mp h with e | h
   ·cases e
    exact .inl rfl
   ·exact .inr ⟨t,h⟩
theorem nm_add {a:Addr} {ks:List Int} {k:Int} {tok:Tok} {Q:Bool→Shared→Prop} (hS:NmSet P w s.heap a ks) (hroom:ks.length+1 < ybZ)
  (h:∀ b h',Heap.SameBut a s.heap h'→NmSet P w h' a (if k∈ks then ks else ks ++ [k])→Q b { s with heap:=h' }) :
  wpAny (model P w) A (yew a (.int k tok) ((ybM P w).hash k)) Q E s:=by
 obtain ⟨⟨o,es,ep,t,ord,ho,hex,hd,hel,ha,hp,hb,hf,hl,hpl⟩,nd⟩:=hS
 have hkey:=is_num (P:=P) (w:=w) k tok
 have hsc:(ycY k tok).scannable=true:=rfl
 have lo:es.size=ks.length:=by
  have l1:=zcN ha
  rw [yaa,yaO] at l1
  rw [l1,hp.length_eq]
 have hmem:k∈ks↔∃ e∈es.toList,(ybM P w).is k e.2=true:=by
  rw [← hp.mem_iff,zjh ha k]
  constructor
  ·rintro ⟨t,ht⟩
   obtain ⟨e,he,ee⟩:=yaG.mp ht
   exact ⟨e,he,by rw [ee];exact is_num k t⟩
  ·rintro ⟨e,he,hk⟩
   obtain ⟨t,et⟩:=num_is hk
   exact ⟨t,yaG.mpr ⟨e,he,et⟩⟩
 unfold yew setAddHashedIn
 refine ya9 (yac (ybl ho hd hf ?_))
 dsimp only
 rw [byScan_of hsc hb hel]
 simp only [↓reduceIte]
 unfold setAddByScan
 refine yac ?_
 refine yac (ycr ?_)
 refine yac (wpAny_setScan_of hkey ho hd hf hel ?_)
 cases hr:List.findIdx? (fun e=>(ybM P w).is k e.2) es.toList with
 | some j =>
  dsimp only
  obtain ⟨hj,hpj,_⟩:=yd3.mp hr
  have hk:k∈ks:=hmem.mpr ⟨es.toList[j],yam hj,hpj⟩
  refine yaf (yaf ?_)
  have e:s = { s with heap:=s.heap }:=by cases s;rfl
  have:=h false s.heap (Heap.SameBut.refl a s.heap) (by rw [if_pos hk];exact ⟨⟨o,es,ep,t,ord,ho,hex,hd,hel,ha,hp,hb,hf,hl,hpl⟩,nd⟩)
  rw [e]
  exact this
 | none =>
  dsimp only
  have hk:k∉ks:=fun z=>by
   obtain ⟨e,he,hpe⟩:=hmem.mp z
   have:=List.findIdx?_eq_none_iff.mp hr e he
   rw [hpe] at this
   exact Bool.noConfusion this
  have hgw:∀ (b:Bool) {s₁:Shared} {Q':Unit→Shared→Prop},Q' () s₁→wpAny (model P w) A (match b with | true=>rule "set.scan.the-table-gave-way" | false=>pure ()) Q' E s₁ :=
   fun b s₁ Q' hq=>by cases b <;> first | exact yaf hq | exact ycr hq
  have hperm:=layNew_perm t es ((ybM P w).hash k) (.int k tok)
  have hfits:=layNew_fits t es ((ybM P w).hash k) (.int k tok)
  have fl:=(zfy t es ((ybM P w).hash k) (.int k tok)).1
  have fr:=zhE hpl es ((ybM P w).hash k) (.int k tok)
  generalize hL:layNew t es ((ybM P w).hash k) (.int k tok)=L at hperm hfits fl fr ⊢
  obtain ⟨es1,t1,wasDummy,gave⟩:=L
  dsimp only at hperm hfits fl fr ⊢
  rw [yfJ] at hperm
  have hel1:ElemsOf (ybM P w) es1.toList:=(hel.push hkey hsc).perm hperm
  have ha1:IntsAre ((es.toList ++ [((ybM P w).hash k,ycY k tok)]).map (·.2)) (ord ++ [k]):=by
   rw [yah]
   exact zhu k tok ha
  obtain ⟨ord1,hb1,hp1⟩:=zeS (hperm.map (·.2)) ha1
  have hz:es1.size < ybZ:=by rw [← yaO,hperm.length_eq,yao,yaO,lo];exact hroom
  have pk:ord1.Perm (ks ++ [k]):=hp1.trans (hp.append_right [k])
  have ndk:(ks ++ [k]).Nodup:=nodup_snoc.mpr ⟨nd,hk⟩
  have fin:∀ h',Heap.SameBut a s.heap h'→NmSet P w h' a (ks ++ [k])→Q true { s with heap:=h' }:=fun h' sb hT=>h true h' sb (by rw [if_neg hk];exact hT)
  refine yac (hgw _ ?_)
  split
  ·refine yac ?_
   rw [hashByValue_scannable 8 hsc]
   refine yaf ?_
   simp only [↓reduceIte,show plainKind (ycY k tok)=true from rfl]
   refine nm_tail ?_ ho hex hd hel1 hb1 pk ndk hz hfits (fl.trans hl) fr ?_
   ·intro b s₁ Q' hq;cases b <;> first | exact yaf hq | exact ycr hq
   ·intro h' hsb hT;dsimp only;exact yaf (fin h' hsb hT)
  ·refine yac (yaf ?_)
   simp only [↓reduceIte]
   refine nm_tail ?_ ho hex hd hel1 hb1 pk ndk hz hfits (fl.trans hl) fr ?_
   ·intro b s₁ Q' hq;cases b <;> first | exact yaf hq | exact ycr hq
   ·intro h' hsb hT;dsimp only;exact yaf (fin h' hsb hT)
end
def nmO (P:Program) (w:World) (a:Addr) (ks:List Int):HO := .ext fun h=>NmSet P w h a ks
theorem NmSet.keeps {P:Program} {w:World} {h h':Heap} {a:Addr} {ks:List Int} (x:NmSet P w h a ks) (k:∀ o,h.get? a=some o→h'.get? a=some o):NmSet P w h' a ks:=by
 obtain ⟨⟨o,es,ep,t,ord,ho,r⟩,nd⟩:=x
 exact ⟨⟨o,es,ep,t,ord,k _ ho,r⟩,nd⟩
theorem nmO_ok {P:Program} {w:World} {H:Hp} {h:Heap} {a:Addr} {ks:List Int} (x:NmSet P w h a ks):ObjOk P w H h a (nmO P w a ks):=by
 obtain ⟨⟨o,es,ep,t,ord,ho,r⟩,nd⟩:=id x
 exact ⟨x,⟨o,ho⟩,fun h1 h2 y k=>y.keeps fun o e=>k _ e⟩
section
variable {X:Cx}
def onceN:List Int→List Int→List Int
 | acc,[]=>acc
 | acc,x :: r=>onceN (if x∈acc then acc else acc ++ [x]) r
theorem zj0 (ys:List Int) (y:Int):∀ acc,onceN acc (ys ++ [y])=(if y∈onceN acc ys then onceN acc ys else onceN acc ys ++ [y]):=by
 induction ys with
 | nil=>intro acc;rfl
 | cons x ys ih=>intro acc;exact ih _
theorem zgZ (hc:X.calm=true):CallR X (.type "set") (fun xs H Q=>∃ (p:Addr) (ys:List Int),xs = [.ref p]∧SqL X.K H p (ys.map V.int)∧ys.length≤1000∧∀ l,H l=none→Q (.ref l) (upd H l (nmO X.prog X.w l (onceN [] ys)))):=by
 intro pins s σ H xs us Q I r h
 obtain ⟨p,ys,rfl,hq,hy,q⟩:=h
 obtain ⟨u,rfl,rx⟩:=vals1 r
 obtain rfl:u=yaD p:=rx
 obtain ⟨its,rv,pl,hz⟩:=I.list hq
 have len:its.length=ys.length:=by rw [← rv.length,yaa]
 have il:=pl.isList
 have lt:p < s.heap.objs.size:=let ⟨o,ho,_⟩:=il;yak ho
 have keepL:∀ {h':Heap},(∀ b o,s.heap.get? b=some o→h'.get? b=some o)→h'.IsList p its.toArray:=fun {h'} k=>let ⟨o,ho,r⟩:=il;⟨o,k _ _ ho,r⟩
 let Good:Nat→Heap→Prop:=fun i h=>NmSet X.prog X.w h s.heap.objs.size (onceN [] (ys.take i))∧(onceN [] (ys.take i)).length≤i
 refine zd6 (T := "list") (l:=p) (n:=ys.length) (Pv:=fun i v=>its.toArray[i]? = some v) (I.ok.hd hc) yeE ydz (by decide) (fun s' k=>let ⟨o,ho,hcl,_⟩:=keepL k;⟨o,ho,hcl⟩) lt
  (fun A' s' hh k => ?_) Good (fun oI => ?_) (fun i h h' g k => ?_) (fun i s2 v Q2 E2 hi hv g q2 => ?_) fun h' tk kp g => ?_
 ·have ne:p≠s'.heap.objs.size:=let ⟨o,ho,_⟩:=keepL k;yaF (yak ho)
  have W:=Walks.list (prog:=X.prog) (w:=X.w) hh s'.heap.objs.size p ne its.toArray
  rw [show its.toArray.size=ys.length by simp [len]] at W
  exact ⟨_,_,fun A2 E2 Q2 z=>ycI (keepL k) z,W,⟨⟨_,yai _ rfl,rfl,rfl⟩,(keepL k).push _⟩⟩
 ·refine ⟨⟨⟨_,#[],0,_,[],yad _ (yai _ rfl),⟨rfl,rfl,rfl⟩,rfl,fun e he=>by simp at he,.nil,.nil,by decide,by rfl,rfl,fun i k h1 h2=>absurd h2 (ycj _)⟩,.nil⟩,yag _⟩
 ·exact ⟨g.1.keeps fun o e=>k _ _ (yaF (ybh _)) e,g.2⟩
 ·obtain ⟨g,gl⟩:=g
  have hv':its[i]? = some v:=by simpa using hv
  have yi:(ys.map V.int)[i]? = some (V.int ys[i]):=by rw [yae,yab hi];rfl
  obtain ⟨v',e',rel⟩:=rv.get yi
  rw [hv'] at e'
  cases e'
  obtain ⟨t,rfl⟩:=rel
  unfold setAdd
  refine ya9 (yac (wpAny_pyHash_int ?_))
  refine nm_add (s:={ s2 with toks:=s2.toks+1 }) g (by unfold ybZ;omega) fun b h' sb hS' => ?_
  refine q2 _ h' _ sb ?_
  show NmSet _ _ _ _ _∧_
  rw [yaB hi,zj0]
  refine ⟨hS',?_⟩
  split
  ·omega
  ·rw [yao]
   simp only [yal,ya5]
   omega
 ·obtain ⟨g,_⟩:=g
  rw [yba] at g
  exact ⟨.ref s.heap.objs.size,_,I.laid (t':=tk) kp (yag _) (nmO_ok g),rfl,q _ (I.hok.fresh (yag _))⟩
end
section
variable {prog:Program} {w:World} {A:Around} {E:Value→Shared→Prop} {s:Shared} {a:Addr} {ep:Nat} {o:Obj} {es:Array (Int×Value)} {t:SetTable}
theorem zhV {Q:Value→Shared→Prop} {ks:List Int} (hh:A.handled=none) (hS:NmSet prog w s.heap a ks) (h64:ks.length < 64)
  (h:∀ (l:Addr) (h':Heap) (tk e:Nat) (d:Drawn) (out:Array Value) (ms:List Int),s.heap.objs.size≤l→(∀ b o,s.heap.get? b=some o→h'.get? b=some o)→h'.get? l=some (ydj "list" out e)→IntsAre out.toList ms→ms.Perm ks→ms.Pairwise (· ≤ ·)→Q (.ref l) { s with heap:=h',toks:=tk,drawn:=d }) :
  wpAny (model prog w) A (call (.builtin "sorted") [.ref a]) Q E s:=by
 obtain ⟨⟨o,es,ep,t,ord,ho,hex,hd,hel,ha,hpo,hb,hf,hl,hpl⟩,nd⟩:=hS
 have lo:es.size=ks.length:=by
  have l1:=zcN ha
  rw [yaa,yaO] at l1
  rw [l1,hpo.length_eq]
 refine ycu kind_sorted yfj yfk (yfl _) ?_
 unfold Builtin.«sorted»
 refine yac (m:=checkCount "sorted" 1 1 _) (yaf ?_)
 refine yac (zgB hh ho hex hd hf hl hpl hb fun h1 tk d vs sz kp it => ?_)
 obtain ⟨ss,hA,ps⟩:=zeS it ha
 have l64:vs.length < 64:=by rw [zcN hA,ps.length_eq,hpo.length_eq];exact h64
 refine yac (yd1 ?_)
 have hoL:(h1.push (ydj "list" vs.toArray 0)).get? h1.objs.size=some (ydj "list" vs.toArray 0):=yai _ rfl
 refine yac (ya9 (ybq yeo ⟨_,hoL,rfl⟩ yd2 (list_sort_tree hoL hA l64 fun out ms a1 a2 a3=>⟨_,rfl,?_⟩) (yep _)))
 obtain ⟨e,he⟩:=sortedHeap_at (out:=out) hoL
 exact yaf ⟨_,rfl,h h1.objs.size _ tk e d out ms sz (fun b o z=>zbo (kp b o z)) he a1 ((a2.trans ps).trans hpo) a3⟩
end
section
variable {X:Cx} {K:PySem.W.Frag}
theorem zha (hc:X.calm=true):CallR X (.builtin "sorted") (fun xs H Q=>∃ (p:Addr) (ks:List Int),xs = [.ref p]∧H p=some (nmO X.prog X.w p ks)∧ks.length < 64∧∀ (l:Addr) (ms:List Int),H l=none→ms.Perm ks→ms.Pairwise (· ≤ ·)→Q (.ref l) (upd H l (.lst (ms.map V.int)))):=by
 intro pins s σ H xs us Q I r h
 obtain ⟨p,ks,rfl,hp,h64,q⟩:=h
 obtain ⟨u,rfl,ru⟩:=vals1 r
 cases ru
 have hx:NmSet X.prog X.w s.heap p ks:=(I.hok p _ hp).1
 refine zhV (I.ok.hd hc) hx h64 fun l h' tk e d out ms lsz kp he a1 a2 a3 => ?_
 have lm:=zcN a1
 have lp:=a2.length_eq
 have J:=I.laid (t':=tk) (o := .lst (ms.map V.int)) (a:=l) kp lsz ⟨by rw [yaa];exact zac (by omega),out.toList,e,zdF a1,he⟩
 exact ⟨.ref l,_,⟨J.ok,J.os,J.bare,J.base,J.loc,J.cell,J.free,J.freeC,J.pin,J.hok,J.len⟩,rfl,q _ ms (I.hok.fresh lsz) a2 a3⟩
end
theorem zfJ {h:Heap} {p:Addr} {o:Obj} {items:Array Value} {c:Nat} {a:List Key} (g:h.get? p=some o) (d:o.data = .seq items c) (hc:o.cls = .type "tuple") (m:items.toList.mapM zb9=some a):zcb h (.ref p)=some a:=by
 unfold zcb
 dsimp only
 rw [g]
 dsimp only
 rw [d]
 dsimp only
 rw [if_pos hc]
 exact m
theorem ziB {h:Heap} {ks:List Bool} {v:Value} {a:List Key} (e:zcb h v=some a) (k:zaF ks a=true):(tupOrd h ks).keyOf v=some a:=by
 show (zcb h v).filter (zaF ks)=some a
 rw [e,Option.filter_some,if_pos k]
theorem zfR {h h':Heap} {v:Value} {a:List Key} (e:zcb h v=some a) (k:∀ b o,o.cls = .type "tuple"→h.get? b=some o→h'.get? b=some o):zcb h' v=some a:=by
 obtain ⟨p,o,items,c,rfl,g,d,hc,m⟩:=zct e
 exact zfJ (k p o hc g) d hc m
theorem zdr {h h':Heap} {ks:List Bool} {v:Value} {a:List Key} (e:(tupOrd h ks).keyOf v=some a) (k:∀ b o,o.cls = .type "tuple"→h.get? b=some o→h'.get? b=some o):(tupOrd h' ks).keyOf v=some a:=by
 obtain ⟨ek,ok⟩:=filter_some e
 exact ziB (zfR ek k) ok
def zbW (h:Heap) (a:Addr) (vs:List Value):Heap:=((h.update a (ycq fun _ => #[])).push (ydj "tuple" vs.toArray 0)).push (ydj "list" #[] 0)
theorem zhx {h:Heap} {a b:Addr} {vs:List Value} {o:Obj} (ne:b≠a) (g:h.get? b=some o):(zbW h a vs).get? b=some o :=
 yad _ (yad _ ((ybP _ _ (yco ne)).trans g))
section
variable {P:Program} {w:World} {A:Around} {E:Value→Shared→Prop} {s:Shared}
theorem ziY {a:Addr} {vs:List Value} {st:SortSt} {e1:Nat} {R:Fin→Shared→Prop} (g:(zbW s.heap a vs).get? a=some (ydj "list" #[] e1)) (sz:(arrOf st).size < 64) (hf:failedOf st=none)
  (q:R (.done (.ret .none)) { s with heap:=sortedHeap s.heap a vs ((arrOf st).map (·.2)) }) :
  wpAny (model P w) A (do
   let sorted:=(arrOf st).map (·.2)
   let touched:=(← seqEpoch a) != e1
   Builtin.List.listUpdate (.ref a) fun _=>sorted
   if let some e:=failedOf st then rule "list.sort.comparison-raised";throw e
   if touched then rule "list.sort.modified";raiseError "ValueError" "list modified during sort"
   ret .none) R E { s with heap:=zbW s.heap a vs }:=by
 have bound:((arrOf st).map (·.2)).size≤yaW+1:=by
  rw [Array.size_map]
  have:=sizeLine_eq
  omega
 refine yac (seqEpoch_at g rfl ?_)
 refine yac (listUpdate_at g rfl ?_ (hsz2:=bound))
 rw [hf]
 simp only [bne_self_eq_false,ya0,if_false]
 exact yaf q
theorem zim {a:Addr} {vs:List Value} {n:Nat} {k:Bool} {ks:List Bool} {R:Fin→Shared→Prop} (ho:s.heap.get? a=some (ydj "list" vs.toArray n)) (h0:∀ v∈vs,∃ x,(tupOrd s.heap (k :: ks)).keyOf v=some x) (h64:vs.length < 64)
  (h:∀ st:SortSt,(arrOf st).Perm (pairsOf vs)→SortedToK (tupOrd (zbW s.heap a vs) (k :: ks)) (arrOf st) vs.length→R (.done (.ret .none)) { s with heap:=sortedHeap s.heap a vs ((arrOf st).map (·.2)) }) :
  wpAny (model P w) A (Builtin.«list.sort» ⟨[.ref a],[]⟩) R E s:=by
 have lt:=yak ho
 obtain ⟨e1,g1⟩:∃ c,(s.heap.update a (ycq fun _ => #[])).get? a=some (ydj "list" #[] c):=⟨_,get?_update_seq ho _⟩
 have gm:(zbW s.heap a vs).get? a=some (ydj "list" #[] e1):=yad _ (yad _ g1)
 have kp:∀ b o,o.cls = .type "tuple"→s.heap.get? b=some o→(zbW s.heap a vs).get? b=some o:=fun b o hc g=>zhx (fun z=>by
  rw [z,ho] at g
  cases g
  exact absurd (show ybQ "list" = ybQ "tuple" from hc) (by decide)) g
 have hk:∀ v∈vs,∃ x,(tupOrd (zbW s.heap a vs) (k :: ks)).keyOf v=some x:=fun v hv=>let ⟨x,e⟩:=h0 v hv;⟨x,zdr e kp⟩
 have hK:KeysOf (tupOrd (zbW s.heap a vs) (k :: ks)) (pairsOf vs):=fun p hp=>by
  rw [pairsOf_toList] at hp
  exact hk _ (mem_zip_self hp).2
 rw [list_sort_plain]
 refine yac (listItems_at ho rfl (yac (listUpdate_at ho rfl (yac (seqEpoch_at g1 rfl (yac (wpAny_newTuple (yac (yd1 (ya9 ?_)))))))) ))
 show wpAny (model P w) A _ R E { s with heap:=zbW s.heap a vs }
 have sv:vs.toArray.size=vs.length:=rfl
 by_cases c:vs.toArray.size < 2
 ·rw [if_pos c,if_pos c]
  refine yac (yaf ?_)
  dsimp only
  rw [StateT.run_pure]
  refine yac (yaf ?_)
  refine ziY (st:=SortSt.mk' general' (pairsOf vs) #[] 7 none) gm (by show (pairsOf vs).size < 64;rw [yeB];exact h64) rfl (h _ (Array.Perm.refl _) fun i j h1 h2 => ?_)
  obtain rfl:i=j:=by omega
  exact (tupOrd (zbW s.heap a vs) (k :: ks)).irrefl _
 ·rw [if_neg c,if_neg c]
  obtain ⟨v,l,rfl⟩:∃ v l,vs=v :: l:=by
   cases vs with
   | nil=>exact absurd (show (0:Nat) < 2 by decide) c
   | cons v l=>exact ⟨v,l,rfl⟩
  refine yac (kind_at (k:=k) (ks:=ks) hk ?_)
  generalize hm:zbW s.heap a (v :: l)=mh at *
  have run:=runs_at (P:=P) (w:=w) (A:=A) (E:=E) (κ:=tupOrd mh (k :: ks)) (kd:=tuples' true) (s:={ s with heap:=mh }) (a₀:=pairsOf (v :: l)) (st:=SortSt.mk' (tuples' true) ((v :: l).toArray.zip (v :: l).toArray) #[] 7 none) (Q:=fun _ t=>(arrOf t).Perm (pairsOf (v :: l))∧failedOf t=none∧SortedToK (tupOrd mh (k :: ks)) (arrOf t) (pairsOf (v :: l)).size) (lts_tup (s:={ s with heap:=mh }) true) hK ⟨Array.Perm.refl _,rfl,rfl,rfl⟩ (by rw [yeB];omega) (by rw [yeB];exact h64) fun t a1 a2 a3=>⟨a1,a2,a3⟩
  refine yac (ycb run ?_ fun _ _ z=>z)
  rintro ⟨⟨⟩,t⟩ s' ⟨rfl,p1,p2,p3⟩
  subst hm
  rw [yeB] at p3
  exact ziY gm (by rw [p1.size_eq,yeB];exact h64) p2 (h t p1 p3)
theorem ziw {h hm:Heap} {ks:List Bool} {vs:List Value} {st:SortSt} (f:Value→List Key) (hf:∀ v∈vs,(tupOrd hm ks).keyOf v=some (f v)) (hp:(arrOf st).Perm (pairsOf vs)) (hs:SortedToK (tupOrd hm ks) (arrOf st) vs.length) :
  ((arrOf st).map (·.2)).toList.Perm vs∧((arrOf st).map (·.2)).toList.Pairwise fun x y=>zaP (f y) (f x)=false:=by
 have pl:(arrOf st).toList.Perm (vs.zip vs):=by
  rw [← pairsOf_toList]
  exact yfa.mp hp
 have same:∀ p∈(arrOf st).toList,p.1=p.2∧p.1∈vs:=fun p hp=>mem_zip_self (pl.mem_iff.mp hp)
 rw [Array.toList_map]
 constructor
 ·have:=pl.map Prod.snd
  rw [List.map_snd_zip (yag _)] at this
  exact this
 ·have len:(arrOf st).size=vs.length:=by rw [hp.size_eq,yeB]
  rw [List.pairwise_iff_getElem]
  intro i j hi hj hij
  have hi':i < (arrOf st).size:=by simpa using hi
  have hj':j < (arrOf st).size:=by simpa using hj
  have lo:=hs i j (ybs hij) (by omega)
  have at_:∀ (m:Nat) (hm':m < (arrOf st).size),KK (tupOrd hm ks) (arrOf st) m=f (arrOf st)[m].2:=fun m hm'=>by
   have mem:(arrOf st)[m]∈(arrOf st).toList:=by simp
   obtain ⟨e,inn⟩:=same _ mem
   unfold KK
   rw [yb6 hm']
   show ((tupOrd hm ks).keyOf (arrOf st)[m].1).getD []=_
   rw [hf _ inn,e]
   rfl
  have lo:zaP (KK (tupOrd hm ks) (arrOf st) j) (KK (tupOrd hm ks) (arrOf st) i)=false:=lo
  rw [at_ i hi',at_ j hj'] at lo
  simpa using lo
theorem zfZ {l:Addr} {vs:List Value} {k:Bool} {ks:List Bool} {Q:Value→Shared→Prop} (f:Value→List Key) (hl:s.heap.IsList l vs.toArray) (h0:∀ v∈vs,(tupOrd s.heap (k :: ks)).keyOf v=some (f v)) (h64:vs.length < 64)
  (h:∀ out:Array Value,out.toList.Perm vs→(out.toList.Pairwise fun x y=>zaP (f y) (f x)=false)→Q (.ref (s.heap.objs.size+1)) { s with heap:=sortedAll s.heap vs out }) :
  wpAny (model P w) A (call (.builtin "sorted") [.ref l]) Q E s:=by
 refine ycu kind_sorted yfj yfk (yfl _) ?_
 unfold Builtin.«sorted»
 refine yac (m:=checkCount "sorted" 1 1 _) (yaf (yac (collect_list hl (yac (yd1 ?_)))))
 generalize hh:(s.heap.push (ydj "list" #[] 0)).update s.heap.objs.size (ycq (· ++ vs.toArray))=h1
 have z1:h1.objs.size=s.heap.objs.size+1:=by
  rw [← hh,Heap.size_update,size_push']
 have k1:∀ b o,s.heap.get? b=some o→h1.get? b=some o:=fun b o e=>by
  rw [← hh]
  exact (ybP _ _ (ycc (yak e))).trans (yad _ e)
 have gL:(h1.push (ydj "list" vs.toArray 0)).get? h1.objs.size=some (ydj "list" vs.toArray 0):=yai _ rfl
 show wpAny _ _ _ _ _ { s with heap:=h1.push (ydj "list" vs.toArray 0) }
 have k2:∀ v∈vs,(tupOrd (h1.push (ydj "list" vs.toArray 0)) (k :: ks)).keyOf v=some (f v):=fun v hv=>zdr (h0 v hv) fun b o _ e=>yad _ (k1 b o e)
 refine yac (ya9 (ybq yeo ⟨_,gL,rfl⟩ yd2 (zim (k:=k) (ks:=ks) gL (fun v hv=>⟨_,k2 v hv⟩) h64 fun st a1 a2=>⟨_,rfl,?_⟩) (yep _)))
 have k3:∀ v∈vs,(tupOrd (zbW (h1.push (ydj "list" vs.toArray 0)) h1.objs.size vs) (k :: ks)).keyOf v=some (f v):=fun v hv=>zdr (h0 v hv) fun b o _ e=>zhx (yaF (by rw [z1];exact ycg (yak e))) (yad _ (k1 b o e))
 obtain ⟨b1,b2⟩:=ziw (h:=s.heap) f k3 a1 a2
 have fin:=h _ b1 b2
 refine yaf ⟨_,rfl,?_⟩
 rw [← z1] at fin
 unfold sortedAll at fin
 rw [hh] at fin
 rw [z1] at fin ⊢
 exact fin
end
theorem perm_map {α β:Type} (f:α→β):∀ {l m:List β},l.Perm m→∀ {r:List α},r.map f=m→∃ r':List α,r'.Perm r∧r'.map f=l:=by
 intro l m p
 induction p with
 | nil =>
  intro r h
  exact ⟨r,.refl _,h⟩
 | cons x _ ih =>
  intro r h
  cases r with
  | nil=>cases h
  | cons y r =>
   rw [yan] at h
   obtain ⟨h1,h2⟩:=ybY h
   obtain ⟨r',p1,p2⟩:=ih h2
   exact ⟨y :: r',p1.cons y,by rw [yan,h1,p2]⟩
 | swap x y l =>
  intro r h
  cases r with
  | nil=>cases h
  | cons a r =>
   cases r with
   | nil=>cases h
   | cons b r =>
    rw [yan,yan] at h
    obtain ⟨h1,h2⟩:=ybY h
    obtain ⟨h3,h4⟩:=ybY h2
    exact ⟨b :: a :: r,.swap _ _ _,by rw [yan,yan,h1,h3,h4]⟩
 | trans _ _ ih1 ih2 =>
  intro r h
  obtain ⟨r1,a1,a2⟩:=ih2 h
  obtain ⟨r2,b1,b2⟩:=ih1 a2
  exact ⟨r2,b1.trans a1,b2⟩
theorem keyOfV_of {k:Key} {v:Value} (r:RelV (kV k) v):zb9 v=some k:=by
 cases k with
 | inl i =>
  obtain ⟨t,rfl⟩:=r
  rfl
 | inr x =>
  obtain ⟨t,rfl⟩:=r
  rfl
theorem keys_of:∀ {ks:List Key} {us:List Value},Vals (ks.map kV) us→us.mapM zb9=some ks
 | [],_,r=>by
  cases r
  rfl
 | k :: ks,_,r=>by
  cases r with
  | cons e r =>
   rw [yeq,keyOfV_of e,keys_of r]
   rfl
theorem zef:∀ {ps:List Addr} {us:List Value},Vals (ps.map V.ref) us→us=ps.map yaD
 | [],_,r=>by
  cases r
  rfl
 | p :: ps,_,r=>by
  cases r with
  | cons e r =>
   cases e
   rw [yan,← zef r]
theorem ziO:∀ (ps:List Addr),Vals (ps.map V.ref) (ps.map yaD)
 | [] => .nil
 | p :: ps => .cons rfl (ziO ps)
section
variable {X:Cx} {K:PySem.W.Frag}
theorem zhG (hK:X.K=K):CallR X (.builtin "sorted") (fun xs H Q=>∃ (p:Addr) (rows:List (Addr×List Key)) (k:Bool) (ks:List Bool),xs = [.ref p]∧SqL K H p (rows.map fun r=>V.ref r.1)∧(∀ r∈rows,SqT K H r.1 (r.2.map kV)∧zaF (k :: ks) r.2=true)∧rows.length < 64∧∀ (l:Addr) (rows':List (Addr×List Key)),H l=none→rows'.Perm rows→(rows'.Pairwise fun x y=>zaP y.2 x.2=false)→Q (.ref l) (upd H l (.lst (rows'.map fun r=>V.ref r.1)))):=by
 subst hK
 intro pins s σ H xs us Q I r h
 obtain ⟨p,rows,k,ks,rfl,hp,hr,h64,q⟩:=h
 obtain ⟨u,rfl,ru⟩:=vals1 r
 cases ru
 obtain ⟨its,rv,pl,_⟩:=I.list hp
 have e1:its=rows.map fun r=>yaD r.1:=by
  have:=zef (ps:=rows.map (·.1)) (us:=its) (by rw [ybb];exact rv)
  rw [this,ybb]
  rfl
 subst e1
 have kt:∀ r∈rows,zcb s.heap (.ref r.1)=some r.2:=fun r hr'=>by
  obtain ⟨its,rv,⟨o,g,hc,c,d⟩,_⟩:=I.tuple (hr r hr').1
  exact zfJ g d hc (keys_of rv)
 refine zfZ (k:=k) (ks:=ks) (fun v=>(zcb s.heap v).getD []) pl.isList (fun v hv => ?_) (by rw [yaa];exact h64) fun out po so => ?_
 ·obtain ⟨r,hr',rfl⟩:=yaG.mp hv
  have:=kt r hr'
  rw [this]
  exact ziB this (hr r hr').2
 ·obtain ⟨rows',p1,p2⟩:=perm_map (fun r:Addr×List Key=>yaD r.1) po rfl
  obtain ⟨e,he⟩:=sortedAll_at s.heap (rows.map fun r=>yaD r.1) out
  have so':rows'.Pairwise fun x y=>zaP y.2 x.2=false:=by
   rw [← p2,ybv] at so
   refine so.imp_of_mem fun {x y} hx hy z => ?_
   have kx:=kt x (p1.mem_iff.mp hx)
   have ky:=kt y (p1.mem_iff.mp hy)
   rw [kx,ky] at z
   exact z
  have lp:=p1.length_eq
  refine ⟨.ref (s.heap.objs.size+1),_,I.laid (t':=s.toks) (o := .lst (rows'.map fun r=>V.ref r.1)) (fun b ob z=>sortedAll_old z) (ycA _) ?_,rfl,q _ rows' (I.hok.fresh (ycA _)) p1 so'⟩
  refine ⟨by rw [yaa];exact zac (by omega),out.toList,e,?_,he⟩
  rw [← p2]
  have:=ziO (rows'.map (·.1))
  rw [ybb,ybb] at this
  exact this
end
theorem ziE (x y:Key):eqV (kV x) (kV y)=true↔x=y:=by
 cases x <;> cases y
 ·show (_ == _)=true↔_
  rw [beq_iff_eq]
  exact ⟨fun h=>by rw [h],fun h=>by cases h;rfl⟩
 ·exact ⟨(fun h=>nomatch h),(fun h=>nomatch h)⟩
 ·exact ⟨(fun h=>nomatch h),(fun h=>nomatch h)⟩
 ·show (_ == _)=true↔_
  rw [beq_iff_eq]
  exact ⟨fun h=>by rw [h],fun h=>by cases h;rfl⟩
theorem flat_kV (ks:List Key):(ks.map kV).all flatV=true:=by
 rw [ycw,yaP]
 intro k _
 cases k <;> rfl
theorem same_keys (ka kb:List Key):((ycz (min ka.length kb.length)).all (fun j=>eqV ((ka.map kV).getD j .non) ((kb.map kV).getD j .non))&&(ka.length == kb.length))=decide (ka=kb):=by
 rw [yb3,yaL,yaP,beq_iff_eq,decide_eq_true_eq]
 have at_:∀ (l:List Key) (j:Nat) (h:j < l.length),(l.map kV).getD j .non=kV l[j]:=fun l j h=>by
  rw [ybf,yae,yab h]
  rfl
 constructor
 ·rintro ⟨h,e⟩
  refine List.ext_getElem e fun j h1 h2 => ?_
  have:=h j (yek.mpr (by omega))
  rw [at_ ka j h1,at_ kb j h2] at this
  exact (ziE _ _).mp this
 ·rintro rfl
  refine ⟨fun j hj => ?_,rfl⟩
  have hj:=yek.mp hj
  rw [at_ ka j (by omega)]
  exact (ziE _ _).mpr rfl
section
variable {X:Cx} {pins:List (Addr×Obj)} {σ:St} {H:Hp} {s:Shared}
theorem tup_eqK {A:Around} (I:Inv X pins σ H s) (hu:A.units < cLine) {a b:Addr} {ka kb:List Key} (ha:SqT X.K H a (ka.map kV)) (hb:SqT X.K H b (kb.map kV)):SeqAt.EqAt A s (.ref a) (.ref b) (decide (ka=kb)):=by
 by_cases hab:a=b
 ·subst hab
  rw [decide_eq_true (kVs_inj (I.tuple_inj ha hb))]
  exact ydY _
 ·obtain ⟨us,r1,q1,_⟩:=I.tuple ha
  obtain ⟨vs,r2,q2,_⟩:=I.tuple hb
  have it:=zd2 (A:=A.in1) (s:=s) r1 r2 (flat_kV _) (flat_kV _)
  have:=SeqAt.RcAt.tuples (A:=A) (show s.heap.IsTuple a us.toArray from q1) (show s.heap.IsTuple b vs.toArray from q2) hu it
  have l1:us.toArray.size=ka.length:=by
   have:=r1.length
   simp at *
   omega
  have l2:vs.toArray.size=kb.length:=by
   have:=r2.length
   simp at *
   omega
  rw [l1,l2,same_keys] at this
  exact yfh hab this
end
section
variable {X:Cx} {K:PySem.W.Frag}
def rNeRows (K:PySem.W.Frag):R2:=fun x y H Q=>∃ (a b:Addr) (ra rb:List (Addr×List Key)),x = .ref a∧y = .ref b∧SqL K H a (ra.map fun r=>V.ref r.1)∧SqL K H b (rb.map fun r=>V.ref r.1)∧(∀ r∈ra,SqT K H r.1 (r.2.map kV))∧(∀ r∈rb,SqT K H r.1 (r.2.map kV))∧ra.length=rb.length∧Q (.bl (decide (ra.map (·.2)≠rb.map (·.2)))) H
theorem op_neRows (hK:X.K=K) (hu:X.A.units+1 < cLine):OpR X (ybo .NotEq) (rNeRows K):=by
 subst hK
 intro pins s σ H x y v u Q I rx ry h
 obtain ⟨a,b,ra,rb,rfl,rfl,ha,hb,ta,tb,hl,q⟩:=h
 obtain rfl:v=yaD a:=rx
 obtain rfl:u=yaD b:=ry
 obtain ⟨us,r1,q1,_⟩:=I.list ha
 obtain ⟨vs,r2,q2,_⟩:=I.list hb
 have e1:us=ra.map fun r=>yaD r.1:=by
  have:=zef (ps:=ra.map (·.1)) (us:=us) (by rw [ybb];exact r1)
  rw [this,ybb]
  rfl
 have e2:vs=rb.map fun r=>yaD r.1:=by
  have:=zef (ps:=rb.map (·.1)) (us:=vs) (by rw [ybb];exact r2)
  rw [this,ybb]
  rfl
 subst e1 e2
 refine yfg (e:=fun j=>decide (((ra.map (·.2))[j]?)=(rb.map (·.2))[j]?)) q1.isList q2.isList (by simp [hl]) (by omega) (fun j h1 h2 => ?_) X.prog X.w _ _ ?_
 ·have j1:j < ra.length:=by simpa using h1
  have j2:j < rb.length:=by simpa using h2
  have:=tup_eqK (A:=X.A.in1) I hu (ta _ (yam j1)) (tb _ (yam j2))
  have e:decide ((ra.map (·.2))[j]? = (rb.map (·.2))[j]?)=decide (ra[j].2=rb[j].2):=by
   apply decide_eq_decide.mpr
   rw [yae,yae,yab j1,yab j2]
   exact ⟨fun h=>yas h,fun h=>congrArg some h⟩
  rw [e]
  simpa using this
 ·refine ⟨.bl _,H,I,rfl,?_⟩
  have e:(!(ycz (ra.map fun r=>yaD r.1).toArray.size).all fun j=>decide ((ra.map (·.2))[j]? = (rb.map (·.2))[j]?))=decide (ra.map (·.2)≠rb.map (·.2)):=by
   rw [yb3,ycs,decide_eq_true_eq,← Bool.not_eq_true,yaP]
   refine not_congr ⟨fun h => ?_,fun h j _=>by rw [h];exact decide_eq_true rfl⟩
   refine yfP fun j => ?_
   rcases ybC j ra.length with z | z
   ·exact of_decide_eq_true (h j (by simpa using z))
   ·rw [ybT (by simpa using z),ybT (by rw [yaa,← hl];exact z)]
  rw [e]
  exact q
def zhy:V→Bool
 | .non=>true
 | _=>false
theorem zhR (hK:X.K=K) (hu:X.A.units+1 < cLine):OpR X (ybo .In) (fun x y H Q=>∃ (p:Addr) (xs:List V),x = .non∧y = .ref p∧SqL K H p xs∧(∀ v∈xs,v = .non∨∃ a ys,v = .ref a∧SqT K H a ys)∧Q (.bl (xs.any zhy)) H):=by
 subst hK
 intro pins s σ H x y v u Q I rx ry h
 obtain ⟨p,xs,rfl,rfl,hq,hx,q⟩:=h
 cases rx
 cases ry
 obtain ⟨its,rv,pl,_⟩:=I.list hq
 refine SeqAt.in_listAt (fun v=>match v with | .none=>true | _=>false) pl.isList (fun y hy => ?_) ⟨.bl _,H,I,rfl,?_⟩
 ·obtain ⟨j,hj,rfl⟩:=ybU (show y∈its by simpa using hy)
  have l:=rv.length
  have e:=Paired.at rv j (by omega) hj
  rcases hx xs[j] (yam _) with z | ⟨a,ys,z,ht⟩
  ·rw [z] at e
   have e:its[j]=ycy:=e
   rw [e]
   exact ydY _
  ·rw [z] at e
   have e:its[j]=yaD a:=e
   rw [e]
   obtain ⟨us,_,q1,_⟩:=I.tuple ht
   exact SeqAt.EqAt.tuple_none (show s.heap.IsTuple a us.toArray from q1) hu
 ·rw [List.any_toArray]
  have e:its.any (fun v=>match v with | .none=>true | _=>false)=xs.any zhy:=by
   clear hq q pl
   rename_i hz
   clear hz
   induction rv with
   | nil=>rfl
   | cons r t ih =>
    rw [ycS,ycS,ih fun v hv=>hx v (yap _ hv)]
    congr 1
    rcases hx _ yat with z | ⟨a,ys,z,_⟩
    ·subst z
     cases r
     rfl
    ·subst z
     cases r
     rfl
  rw [e]
  exact q
theorem call_lenX:CallR X (.builtin "len") (fun xs H Q=>∃ (a:Addr) (ks:List Str),xs = [.ref a]∧H a=some (txO X.prog X.w a ks)∧Q (.int ks.length) H):=by
 intro pins s σ H xs us Q I r h
 obtain ⟨a,ks,rfl,ha,q⟩:=h
 obtain ⟨u,rfl,rx⟩:=vals1 r
 obtain rfl:u=yaD a:=rx
 have hx:TxSet X.prog X.w s.heap a ks:=(I.hok a _ ha).1
 obtain ⟨⟨o,es,ep,t,ord,ho,hex,hd,hel,hA,hp,hb,hf,hl,hpl⟩,nd⟩:=hx
 have lo:es.size=ks.length:=by
  have l1:=zcc hA
  rw [yaa,yaO] at l1
  rw [l1,hp.length_eq]
 refine call_len_set ho hex hd hf (by unfold ybZ at hb;omega) ⟨.int es.size,H,I.tok _,⟨_,rfl⟩,?_⟩
 rw [lo]
 exact q
theorem call_lenN:CallR X (.builtin "len") (fun xs H Q=>∃ (a:Addr) (ks:List Int),xs = [.ref a]∧H a=some (nmO X.prog X.w a ks)∧Q (.int ks.length) H):=by
 intro pins s σ H xs us Q I r h
 obtain ⟨a,ks,rfl,ha,q⟩:=h
 obtain ⟨u,rfl,rx⟩:=vals1 r
 obtain rfl:u=yaD a:=rx
 have hx:NmSet X.prog X.w s.heap a ks:=(I.hok a _ ha).1
 obtain ⟨⟨o,es,ep,t,ord,ho,hex,hd,hel,hA,hp,hb,hf,hl,hpl⟩,nd⟩:=hx
 have lo:es.size=ks.length:=by
  have l1:=zcN hA
  rw [yaa,yaO] at l1
  rw [l1,hp.length_eq]
 refine call_len_set ho hex hd hf (by unfold ybZ at hb;omega) ⟨.int es.size,H,I.tok _,⟨_,rfl⟩,?_⟩
 rw [lo]
 exact q
end
theorem sq1 {a b:TS} {D:Ends} {σ:St} {H:Hp} (f:∀ R:TS,(∀ {D:Ends} {σ:St} {H:Hp},b D σ H→R D σ H)→tSeq a R D σ H):tSeq a b D σ H:=f b fun h=>h
theorem sq2 {a b c:TS} {D:Ends} {σ:St} {H:Hp} (f:∀ R:TS,(∀ {D:Ends} {σ:St} {H:Hp},c D σ H→R D σ H)→tSeq a (tSeq b R) D σ H):tSeq a (tSeq b c) D σ H:=f c fun h=>h
theorem ixL {K:PySem.W.Frag} {p:Addr} {xs:List V} {i:Int} {v:V} {H:Hp} {Q:VK} (h:SqL K H p xs) (e:atI xs i=some v) (q:Q v H):rIxL K (.ref p) (.int i) H Q:=⟨p,xs,i,v,rfl,rfl,h,e,q⟩
theorem opJ {C:Int→Int→Prop} {g:Int→Int→V} {i j:Int} {H:Hp} {Q:VK} (c:C i j) (q:Q (g i j) H):rI C g (.int i) (.int j) H Q:=⟨i,j,rfl,rfl,c,q⟩
theorem ixT {K:PySem.W.Frag} {p:Addr} {xs:List V} {i:Int} {v:V} {H:Hp} {Q:VK} (h:SqT K H p xs) (e:atI xs i=some v) (q:Q v H):rIxT K (.ref p) (.int i) H Q:=⟨p,xs,i,v,rfl,rfl,h,e,q⟩
theorem ixLc {K:PySem.W.Frag} {p:Addr} {xs:List V} {i:Int} {v:V} {σ:St} {H:Hp} {Q:VK} (h:SqL K H p xs) (e:atI xs i=some v) (q:Q v H):tC (.int i) σ H fun y H2=>rIxL K (.ref p) y H2 Q:=⟨p,xs,i,v,rfl,rfl,h,e,q⟩
theorem ixTc {K:PySem.W.Frag} {p:Addr} {xs:List V} {i:Int} {v:V} {σ:St} {H:Hp} {Q:VK} (h:SqT K H p xs) (e:atI xs i=some v) (q:Q v H):tC (.int i) σ H fun y H2=>rIxT K (.ref p) y H2 Q:=⟨p,xs,i,v,rfl,rfl,h,e,q⟩
theorem opJc {C:Int→Int→Prop} {g:Int→Int→V} {i j:Int} {σ:St} {H:Hp} {Q:VK} (c:C i j) (q:Q (g i j) H):tC (.int j) σ H fun y H2=>rI C g (.int i) y H2 Q:=⟨i,j,rfl,rfl,c,q⟩
end L2
namespace L2
theorem ea {α:Sort _} {A B:α→Prop} {w:α} (a:A w) (b:B w):∃ v,A v∧B v:=⟨w,a,b⟩
end L2
namespace K23
open PySem L2 PySem.Spec PyProof.Rows PySem.NumText
def top (i:Nat):Stmt:=PySem.Challenge.pw_planstore_k23_pages_as_texts.main.body.getD i (.Pass ⟨0,0,0,0⟩)
abbrev zb3:Stmt:=top 7
abbrev zb7:Stmt:=top 8
abbrev zcC:Stmt:=top 9
abbrev zb8:Stmt:=top 10
abbrev zbv:Stmt:=top 11
abbrev zbN:Stmt:=top 12
abbrev zb4:Stmt:=top 13
abbrev zbK:Stmt:=top 15
abbrev zbO:Stmt:=top 20
abbrev zaI:Stmt:=top 21
abbrev zcD:Stmt:=top 22
abbrev zcv:Stmt:=top 23
abbrev zcu:Stmt:=top 24
abbrev zdf:Stmt:=top 32
abbrev zcx:Stmt:=top 33
abbrev zbP:Stmt:=top 34
abbrev zbj:Stmt:=top 35
abbrev zbb:Stmt:=top 36
abbrev zbt:Stmt:=top 37
abbrev za9:Stmt:=top 38
abbrev zbx:Stmt:=top 39
abbrev zbi:Stmt:=top 40
abbrev zaU:Stmt:=zh9 (top 41) 0
abbrev zaH:Stmt:=zh9 (top 41) 1
abbrev zaN:Stmt:=zh9 (top 41) 2
abbrev zbI:Stmt:=top 43
abbrev zbu:Stmt:=top 44
abbrev zby:Stmt:=top 45
abbrev zbh:Stmt:=top 46
abbrev zbs:Stmt:=top 47
abbrev zb5:Stmt:=top 48
abbrev zaV:Stmt:=top 49
abbrev za1:Stmt:=top 50
abbrev zbc:Stmt:=top 51
abbrev za2:Stmt:=top 52
abbrev zbe:Stmt:=top 53
abbrev zbg:Stmt:=top 54
abbrev zbQ:Stmt:=top 55
abbrev zbf:Stmt:=top 56
abbrev s_law:Stmt:=top 57
set_option genInjectivity false in
set_option genSizeOf false in
structure Txt (K:PySem.W.Frag) (mg:Str→Option Value) where
 D_KINDS:Addr
 c_KINDS:mg "KINDS" = some (.ref D_KINDS)
 t_KINDS:∃ (o:Obj) (its:Array Value) (n:Nat),K.lookup D_KINDS=some o∧o.cls = .type "tuple"∧o.data = .seq its n∧its.size≤yaW∧Vals [.str "number",.str "word"] its.toList
 C_Schema:Addr
 c_Schema:mg "Schema" = some (.ref C_Schema)
 l_Schema:Cls K C_Schema
 n_Schema_tables:NoAttr K C_Schema "tables"
 n_Schema_orders:NoAttr K C_Schema "orders"
 n_Schema_columns:NoAttr K C_Schema "columns"
 is_whole:Fx K mg "is_whole" zb3 ["thing"]
 has_only:Fx K mg "has_only" zb7 ["signs", "text"]
 is_name:Fx K mg "is_name" zcC ["thing"]
 is_value:Fx K mg "is_value" zb8 ["kind", "thing"]
 value_text:Fx K mg "value_text" zbv ["value"]
 number_in:Fx K mg "number_in" zbN ["text"]
 value_in:Fx K mg "value_in" zb4 ["kind", "text"]
 values_in:Fx K mg "values_in" zbK ["columns", "words"]
 page_text:Fx K mg "page_text" zbO ["table", "last", "many", "rows"]
 number_from_nought:Fx K mg "number_from_nought" zaI ["text"]
 head_in:Fx K mg "head_in" zcD ["schema", "words"]
 rows_in:Fx K mg "rows_in" zcv ["columns", "parts"]
 page_in:Fx K mg "page_in" zcu ["schema", "text"]
 few_of:Fx K mg "few_of" zdf ["thing", "least"]
 pair_of:Fx K mg "pair_of" zcx ["thing"]
 need_name:Fx K mg "need_name" zbP ["thing"]
 need_unlike:Fx K mg "need_unlike" zbj ["things"]
 column_from:Fx K mg "column_from" zbb ["thing"]
 table_from:Fx K mg "table_from" zbt ["thing"]
 tables_from:Fx K mg "tables_from" za9 ["thing"]
 order_from:Fx K mg "order_from" zbx ["tables", "thing"]
 orders_from:Fx K mg "orders_from" zbi ["tables", "thing"]
 Schema___init__:MxD K C_Schema "__init__" "Schema.__init__" zaU
 Schema_table_names:Mx K C_Schema "table_names" "Schema.table_names" zaH ["self"]
 Schema_columns_of:Mx K C_Schema "columns_of" "Schema.columns_of" zaN ["self", "table"]
 _law_cell:Fx K mg "_law_cell" zbI ["_law_script", "_law_k"]
 _law_draws:Fx K mg "_law_draws" zbu ["_law_cell_here", "_law_many"]
 _law_names:Fx K mg "_law_names" zby ["_law_cell_here", "_law_many"]
 _law_schema:Fx K mg "_law_schema" zbh ["_law_cell_here"]
 _law_value:Fx K mg "_law_value" zbs ["_law_kind", "_law_draw"]
 _law_row:Fx K mg "_law_row" zb5 ["_law_columns", "_law_draws_here"]
 _law_table_rows:Fx K mg "_law_table_rows" zaV ["_law_columns", "_law_cell_here", "_law_many"]
 _law_page_text:Fx K mg "_law_page_text" za1 ["_law_name", "_law_last", "_law_many", "_law_rows"]
 _law_number:Fx K mg "_law_number" zbc ["_law_word"]
 _law_value_in:Fx K mg "_law_value_in" za2 ["_law_kind", "_law_word"]
 _law_row_in:Fx K mg "_law_row_in" zbe ["_law_columns", "_law_part"]
 _law_parsed:Fx K mg "_law_parsed" zbg ["_law_tables", "_law_text"]
 _law_good:Fx K mg "_law_good" zbQ ["_law_schema_here", "_law_tables", "_law_text"]
 _law_spoilt:Fx K mg "_law_spoilt" zbf ["_law_text", "_law_draws_here", "_law_other"]
 law:Fx K mg "law" s_law ["_law_script"]
 k_Schema:Mk K C_Schema Schema___init__.f
 b_abs:mg "abs" = none
 b_all:mg "all" = none
 b_bool:mg "bool" = none
 b_dict:mg "dict" = none
 b_enumerate:mg "enumerate" = none
 b_int:mg "int" = none
 b_isinstance:mg "isinstance" = none
 b_len:mg "len" = none
 b_list:mg "list" = none
 b_range:mg "range" = none
 b_set:mg "set" = none
 b_sorted:mg "sorted" = none
 b_str:mg "str" = none
 b_tuple:mg "tuple" = none
 b_zip:mg "zip" = none
 u_BETWEEN_PARTS:Value
 c_BETWEEN_PARTS:mg "BETWEEN_PARTS" = some u_BETWEEN_PARTS
 r_BETWEEN_PARTS:RelV (.str " | ") u_BETWEEN_PARTS
 u_FIGURES:Value
 c_FIGURES:mg "FIGURES" = some u_FIGURES
 r_FIGURES:RelV (.str "0123456789") u_FIGURES
 u_GREATEST:Value
 c_GREATEST:mg "GREATEST" = some u_GREATEST
 r_GREATEST:RelV (.int 1000000000) u_GREATEST
 u_LETTERS:Value
 c_LETTERS:mg "LETTERS" = some u_LETTERS
 r_LETTERS:RelV (.str "abcdefghijklmnopqrstuvwxyz") u_LETTERS
 u_LONGEST_NAME:Value
 c_LONGEST_NAME:mg "LONGEST_NAME" = some u_LONGEST_NAME
 r_LONGEST_NAME:RelV (.int 8) u_LONGEST_NAME
 u_MOST:Value
 c_MOST:mg "MOST" = some u_MOST
 r_MOST:RelV (.int 4) u_MOST
 u_MOST_FIGURES:Value
 c_MOST_FIGURES:mg "MOST_FIGURES" = some u_MOST_FIGURES
 r_MOST_FIGURES:RelV (.int 10) u_MOST_FIGURES
 u_MOST_ROWS:Value
 c_MOST_ROWS:mg "MOST_ROWS" = some u_MOST_ROWS
 r_MOST_ROWS:RelV (.int 60) u_MOST_ROWS
 u_PAGE_WORD:Value
 c_PAGE_WORD:mg "PAGE_WORD" = some u_PAGE_WORD
 r_PAGE_WORD:RelV (.str "page") u_PAGE_WORD
theorem zh3:FnScope ["thing"] ["thing"] (zag zb3):=⟨rfl,rfl,rfl,by decide +kernel,rfl,by decide +kernel,by decide +kernel⟩
theorem zhL:FnScope ["signs", "text"] ["signs", "text"] (zag zb7):=⟨rfl,rfl,rfl,by decide +kernel,rfl,by decide +kernel,by decide +kernel⟩
theorem zjT:FnScope ["thing"] ["thing"] (zag zcC):=⟨rfl,rfl,rfl,by decide +kernel,rfl,by decide +kernel,by decide +kernel⟩
theorem zh8:FnScope ["kind", "thing"] ["kind", "thing"] (zag zb8):=⟨rfl,rfl,rfl,by decide +kernel,rfl,by decide +kernel,by decide +kernel⟩
theorem zf1:FnScope ["value"] ["value"] (zag zbv):=⟨rfl,rfl,rfl,by decide +kernel,rfl,by decide +kernel,by decide +kernel⟩
theorem sc_number_in:FnScope ["text", "figures", "number"] ["text"] (zag zbN):=⟨rfl,rfl,rfl,by decide +kernel,rfl,by decide +kernel,by decide +kernel⟩
theorem zik:FnScope ["kind", "text"] ["kind", "text"] (zag zb4):=⟨rfl,rfl,rfl,by decide +kernel,rfl,by decide +kernel,by decide +kernel⟩
theorem sc_values_in:FnScope ["columns", "words", "values"] ["columns", "words"] (zag zbK):=⟨rfl,rfl,rfl,by decide +kernel,rfl,by decide +kernel,by decide +kernel⟩
theorem sc_page_text:FnScope ["table", "last", "many", "rows", "parts", "row"] ["table", "last", "many", "rows"] (zag zbO):=⟨rfl,rfl,rfl,by decide +kernel,rfl,by decide +kernel,by decide +kernel⟩
theorem sc_number_from_nought:FnScope ["text", "number"] ["text"] (zag zaI):=⟨rfl,rfl,rfl,by decide +kernel,rfl,by decide +kernel,by decide +kernel⟩
theorem sc_head_in:FnScope ["schema", "words", "last", "many"] ["schema", "words"] (zag zcD):=⟨rfl,rfl,rfl,by decide +kernel,rfl,by decide +kernel,by decide +kernel⟩
theorem sc_rows_in:FnScope ["columns", "parts", "rows", "keys"] ["columns", "parts"] (zag zcv):=⟨rfl,rfl,rfl,by decide +kernel,rfl,by decide +kernel,by decide +kernel⟩
theorem sc_page_in:FnScope ["schema", "text", "parts", "head", "rows"] ["schema", "text"] (zag zcu):=⟨rfl,rfl,rfl,by decide +kernel,rfl,by decide +kernel,by decide +kernel⟩
theorem sc_few_of:FnScope ["thing", "least"] ["thing", "least"] (zag zdf):=⟨rfl,rfl,rfl,by decide +kernel,rfl,by decide +kernel,by decide +kernel⟩
theorem zjX:FnScope ["thing"] ["thing"] (zag zcx):=⟨rfl,rfl,rfl,by decide +kernel,rfl,by decide +kernel,by decide +kernel⟩
theorem zgQ:FnScope ["thing"] ["thing"] (zag zbP):=⟨rfl,rfl,rfl,by decide +kernel,rfl,by decide +kernel,by decide +kernel⟩
theorem zfs:FnScope ["things"] ["things"] (zag zbj):=⟨rfl,rfl,rfl,by decide +kernel,rfl,by decide +kernel,by decide +kernel⟩
theorem sc_column_from:FnScope ["thing", "pair"] ["thing"] (zag zbb):=⟨rfl,rfl,rfl,by decide +kernel,rfl,by decide +kernel,by decide +kernel⟩
theorem sc_table_from:FnScope ["thing", "pair", "columns"] ["thing"] (zag zbt):=⟨rfl,rfl,rfl,by decide +kernel,rfl,by decide +kernel,by decide +kernel⟩
theorem sc_tables_from:FnScope ["thing", "tables"] ["thing"] (zag za9):=⟨rfl,rfl,rfl,by decide +kernel,rfl,by decide +kernel,by decide +kernel⟩
theorem sc_order_from:FnScope ["tables", "thing", "pair", "order", "name", "columns"] ["tables", "thing"] (zag zbx):=⟨rfl,rfl,rfl,by decide +kernel,rfl,by decide +kernel,by decide +kernel⟩
theorem sc_orders_from:FnScope ["tables", "thing", "orders"] ["tables", "thing"] (zag zbi):=⟨rfl,rfl,rfl,by decide +kernel,rfl,by decide +kernel,by decide +kernel⟩
theorem zdS:FnScope ["self", "tables", "orders"] ["self", "tables", "orders"] (zag zaU):=⟨rfl,rfl,rfl,by decide +kernel,rfl,by decide +kernel,by decide +kernel⟩
theorem zcV:FnScope ["self"] ["self"] (zag zaH):=⟨rfl,rfl,rfl,by decide +kernel,rfl,by decide +kernel,by decide +kernel⟩
theorem zdj:FnScope ["self", "table"] ["self", "table"] (zag zaN):=⟨rfl,rfl,rfl,by decide +kernel,rfl,by decide +kernel,by decide +kernel⟩
theorem zhg:FnScope ["_law_script", "_law_k"] ["_law_script", "_law_k"] (zag zbI):=⟨rfl,rfl,rfl,by decide +kernel,rfl,by decide +kernel,by decide +kernel⟩
theorem sc__law_draws:FnScope ["_law_cell_here", "_law_many", "_law_found", "_law_left", "_law_mixed", "_law_k"] ["_law_cell_here", "_law_many"] (zag zbu):=⟨rfl,rfl,rfl,by decide +kernel,rfl,by decide +kernel,by decide +kernel⟩
theorem sc__law_names:FnScope ["_law_cell_here", "_law_many", "_law_letters", "_law_draws_here", "_law_size", "_law_at", "_law_names_here", "_law_k", "_law_signs"] ["_law_cell_here", "_law_many"] (zag zby):=⟨rfl,rfl,rfl,by decide +kernel,rfl,by decide +kernel,by decide +kernel⟩
theorem sc__law_schema:FnScope ["_law_cell_here", "_law_draws_here", "_law_tables", "_law_some", "_law_k", "_law_name", "_law_columns", "_law_names_here", "_law_j", "_law_column", "_law_orders"] ["_law_cell_here"] (zag zbh):=⟨rfl,rfl,rfl,by decide +kernel,rfl,by decide +kernel,by decide +kernel⟩
theorem sc__law_value:FnScope ["_law_kind", "_law_draw", "_law_number_here"] ["_law_kind", "_law_draw"] (zag zbs):=⟨rfl,rfl,rfl,by decide +kernel,rfl,by decide +kernel,by decide +kernel⟩
theorem zhW:FnScope ["_law_columns", "_law_draws_here"] ["_law_columns", "_law_draws_here"] (zag zb5):=⟨rfl,rfl,rfl,by decide +kernel,rfl,by decide +kernel,by decide +kernel⟩
theorem sc__law_table_rows:FnScope ["_law_columns", "_law_cell_here", "_law_many", "_law_found", "_law_k", "_law_row_here"] ["_law_columns", "_law_cell_here", "_law_many"] (zag zaV):=⟨rfl,rfl,rfl,by decide +kernel,rfl,by decide +kernel,by decide +kernel⟩
theorem sc__law_page_text:FnScope ["_law_name", "_law_last", "_law_many", "_law_rows", "_law_parts"] ["_law_name", "_law_last", "_law_many", "_law_rows"] (zag za1):=⟨rfl,rfl,rfl,by decide +kernel,rfl,by decide +kernel,by decide +kernel⟩
theorem zfo:FnScope ["_law_word"] ["_law_word"] (zag zbc):=⟨rfl,rfl,rfl,by decide +kernel,rfl,by decide +kernel,by decide +kernel⟩
theorem sc__law_value_in:FnScope ["_law_kind", "_law_word", "_law_number_here"] ["_law_kind", "_law_word"] (zag za2):=⟨rfl,rfl,rfl,by decide +kernel,rfl,by decide +kernel,by decide +kernel⟩
theorem sc__law_row_in:FnScope ["_law_columns", "_law_part", "_law_words", "_law_row_here"] ["_law_columns", "_law_part"] (zag zbe):=⟨rfl,rfl,rfl,by decide +kernel,rfl,by decide +kernel,by decide +kernel⟩
theorem sc__law_parsed:FnScope ["_law_tables", "_law_text", "_law_parts", "_law_words", "_law_columns", "_law_rows"] ["_law_tables", "_law_text"] (zag zbg):=⟨rfl,rfl,rfl,by decide +kernel,rfl,by decide +kernel,by decide +kernel⟩
theorem sc__law_good:FnScope ["_law_schema_here", "_law_tables", "_law_text", "_law_found", "_law_due"] ["_law_schema_here", "_law_tables", "_law_text"] (zag zbQ):=⟨rfl,rfl,rfl,by decide +kernel,rfl,by decide +kernel,by decide +kernel⟩
theorem sc__law_spoilt:FnScope ["_law_text", "_law_draws_here", "_law_other", "_law_parts", "_law_at", "_law_spot", "_law_turned", "_law_lists", "_law_place", "_law_sign", "_law_some"] ["_law_text", "_law_draws_here", "_law_other"] (zag zbf):=⟨rfl,rfl,rfl,by decide +kernel,rfl,by decide +kernel,by decide +kernel⟩
theorem sc_law:FnScope ["_law_script", "_law_tables", "_law_orders", "_law_schema_here", "_law_cell_here", "_law_draws_here", "_law_name", "_law_columns", "_law_size", "_law_rows", "_law_numbers", "_law_text", "_law_handed", "_law_more", "_law_other", "_law_near", "_law_thing"] ["_law_script"] (zag s_law):=⟨rfl,rfl,rfl,by decide +kernel,rfl,by decide +kernel,by decide +kernel⟩
def isLow (c:Nat):Bool:=decide (97≤c)&&decide (c≤122)
def isNm (x:Str):Bool:=decide (1≤x.length)&&decide (x.length≤8)&&x.cps.toList.all isLow
def zez:V→Bool
 | .str x=>isNm x
 | _=>false
def isInt:V→Bool
 | .int _=>true
 | _=>false
def isIB:V→Bool
 | .int _=>true
 | .bl _=>true
 | _=>false
def isBl:V→Bool
 | .bl _=>true
 | _=>false
def isSt:V→Bool
 | .str _=>true
 | _=>false
def isNum:V→Bool
 | .int i=>decide (-1000000000≤i)&&decide (i≤1000000000)
 | _=>false
def isVal (k:Str) (v:V):Bool:=if k = "number" then isNum v else zez v
def optV:Option Int→V
 | none => .non
 | some n => .int n
def wordV (x:Str):V:=if isNm x=true then .str x else .non
def Thing (K:PySem.W.Frag) (H:Hp) (v:V):Prop :=
 (∃ T,TyOf K H v (.type T)∧(T = "NoneType"∨T = "bool"∨T = "int"∨T = "str"∨T = "list"∨T = "tuple"∨T = "dict"))∧∀ x,v = .str x→x.length≤10000
theorem Thing.int {K:PySem.W.Frag} {H:Hp} (i:Int):Thing K H (.int i):=⟨⟨_,.int i,.inr (.inr (.inl rfl))⟩,fun x e=>nomatch e⟩
theorem Thing.str {K:PySem.W.Frag} {H:Hp} {x:Str} (h:x.length≤10000):Thing K H (.str x):=⟨⟨_,.str x,.inr (.inr (.inr (.inl rfl)))⟩,fun y e=>by cases e;exact h⟩
section
variable {K:PySem.W.Frag} {H:Hp} {v:V}
theorem zeM (c:String) (f:V→Bool) (h:Thing K H v)
  (k1:ybA K (.type "NoneType") (.type c)=some (f .non)) (k2:∀ b,ybA K (.type "bool") (.type c)=some (f (.bl b))) (k3:∀ i,ybA K (.type "int") (.type c)=some (f (.int i)))
  (k4:∀ x,ybA K (.type "str") (.type c)=some (f (.str x))) (k5:∀ a,ybA K (.type "list") (.type c)=some (f (.ref a))) (k6:∀ a,ybA K (.type "tuple") (.type c)=some (f (.ref a)))
  (k7:∀ a,ybA K (.type "dict") (.type c)=some (f (.ref a))):∃ t,TyOf K H v t∧ybA K t (.type c)=some (f v):=by
 obtain ⟨⟨T,y,m⟩,_⟩:=h
 cases y with
 | non=>exact ⟨_,.non,k1⟩
 | bl b=>exact ⟨_,.bl b,k2 b⟩
 | int i=>exact ⟨_,.int i,k3 i⟩
 | str x=>exact ⟨_,.str x,k4 x⟩
 | flt x=>exact absurd m (by decide)
 | lst e=>exact ⟨_,.lst e,k5 _⟩
 | frz e=>exact ⟨_,.frz e,k5 _⟩
 | tup e=>exact ⟨_,.tup e,k6 _⟩
 | dK e=>exact ⟨_,.dK e,k7 _⟩
 | dT e=>exact ⟨_,.dT e,k7 _⟩
theorem thing_int (h:Thing K H v):∃ t,TyOf K H v t∧ybA K t (.type "int")=some (isIB v) :=
 zeM "int" isIB h (by rfl) (fun _=>by rfl) (fun _=>zbR) (fun _=>by rfl) (fun _=>by rfl) (fun _=>by rfl) (fun _=>by rfl)
theorem zjx (h:Thing K H v):∃ t,TyOf K H v t∧ybA K t (.type "bool")=some (isBl v) :=
 zeM "bool" isBl h (by rfl) (fun _=>zbR) (fun _=>by rfl) (fun _=>by rfl) (fun _=>by rfl) (fun _=>by rfl) (fun _=>by rfl)
theorem zgC (h:Thing K H v):∃ t,TyOf K H v t∧ybA K t (.type "str")=some (isSt v) :=
 zeM "str" isSt h (by rfl) (fun _=>by rfl) (fun _=>by rfl) (fun _=>zbR) (fun _=>by rfl) (fun _=>by rfl) (fun _=>by rfl)
end
def ziu (K:PySem.W.Frag):Sp:=fun vs H Q _=>∃ v,vs = [v]∧Thing K H v∧Q (.bl (isInt v)) H
def zhU:Sp:=fun vs H Q _=>∃ a x,vs = [.str a,.str x]∧x.length≤10000∧∀ H',Same H H'→Q (.bl (x.cps.toList.all fun c=>decide (c∈a.cps.toList))) H'
def zjY (K:PySem.W.Frag):Sp:=fun vs H Q _=>∃ v,vs = [v]∧Thing K H v∧∀ H',Same H H'→Q (.bl (zez v)) H'
def zie (K:PySem.W.Frag):Sp:=fun vs H Q _=>∃ k v,vs = [.str k,v]∧(k = "number"∨k = "word")∧Thing K H v∧∀ H',Same H H'→Q (.bl (isVal k v)) H'
theorem q_of {Q:VK} {H:Hp} {b c:Bool} (h:Q (.bl b) H) (e:b=c):Q (.bl c) H:=e ▸ h
theorem qv_of {Q:VK} {H:Hp} {b c:V} (h:Q b H) (e:b=c):Q c H:=e ▸ h
theorem ze6 (c:Nat):decide (c∈("abcdefghijklmnopqrstuvwxyz" : Str).cps.toList)=isLow c:=by
 have e:("abcdefghijklmnopqrstuvwxyz" : Str).cps.toList=List.range' 97 26:=by decide +kernel
 rw [e,yb3]
 unfold isLow
 simp only [decide_eq_true_eq,yaL,List.mem_range'_1]
 omega
theorem zbr (v:V):isVal "number" v=isNum v:=if_pos rfl
theorem zb6 (v:V):isVal "word" v=zez v:=if_neg (by decide +kernel)
theorem zcf (x:Str):x.cps.toList.length=x.length:=yaO
section
variable {P:Program} {w:World} {K:PySem.W.Frag} {mg:Str→Option Value} {base:Heap}
theorem zhT (T:Txt K mg):FnOk P w K mg base CX0 1 T.is_whole.f T.is_whole.fd ["thing"] (ziu K):=by
 refine T.is_whole.fn.ok zh3 (fun vs H Q E h => ?_) (fun cdv A outer s H vs Q E hr h => ?_)
 ·obtain ⟨v,rfl,_⟩:=h
  rfl
 ·obtain ⟨v,rfl,ht,k⟩:=h
  refine ⟨_,((zah (zao (zgJ (zak (za3 (K:=K) rfl) (by rfl) T.b_isinstance zaE (zaa (pv 0) (zaa (zbH (v := .ty "int") rfl T.b_int zdO rfl) zad))) (zgM (pe_not (zak (za3 (K:=K) rfl) (by rfl) T.b_isinstance zaE (zaa (pv 0) (zaa (zbH (v := .ty "bool") rfl T.b_bool bt_bool rfl) zad))))))))),?_⟩
  obtain ⟨t1,y1,e1⟩:=thing_int ht
  obtain ⟨t2,y2,e2⟩:=zjx ht
  refine (ea rfl ⟨_,_,_,ea rfl ⟨y1,e1,ea rfl ?_⟩⟩)
  cases v with
  | int i=>exact iteT ⟨_,rfl,_,_,_,_,rfl,y2,e2,_,rfl,k⟩
  | bl b=>exact iteT ⟨_,rfl,_,_,_,_,rfl,y2,e2,_,rfl,k⟩
  | _=>exact iteF k
theorem zeB (T:Txt K mg):FnOk P w K mg base CX0 1 T.has_only.f T.has_only.fd ["signs", "text"] zhU:=by
 refine T.has_only.fn.ok zhL (fun vs H Q E h => ?_) (fun cdv A outer s H vs Q E hr h => ?_)
 ·obtain ⟨a,x,rfl,_⟩:=h
  rfl
 ·obtain ⟨a,x,rfl,hx,k⟩:=h
  refine ⟨_,((zah (zao (zak (call_all rfl) (by rfl) T.b_all bt_all (zaa (zaR (N := ["sign", "signs"]) (own:=1) (caps := [0]) rfl (by kernel_rfl) (by kernel_rfl) (pi_str (pv 1)) (fun _ _ _ _ _=>zal (i:=0) (show List.Nodup (["sign", "signs"]:List Str) by decide +kernel) rfl (yaR rfl)) (fun _ _ _ _ _=>zaM) (fun _ _ _ _ _=>(zeu op_in_str (pv 0) (pv 1) (by with_unfolding_all rfl)))) zad))))),?_⟩
  refine (ea rfl (ea rfl (fun D hD => ?_)))
  refine zaz (J:=Its x) x.cps.size (fun i τ H2=>∃ v,τ = [v,some (.str a)]∧Same H H2∧H2 D=some (.lst ((x.cps.toList.take i).map fun c=>V.bl (decide (c∈a.cps.toList)))))
   ?_ (fun i τ H2 hi _=>hi) (fun τ H2 _=>yag _) ?_ ?_
  ·exact ⟨none,rfl,Same.new hD,zab⟩
  ·rintro i τ H2 y H3 hi ⟨v,rfl,sm,hd⟩ ⟨rfl,c,hc,rfl⟩
   refine (ea rfl (ea rfl ⟨_,ea rfl ⟨rfl,_,hd,?_,ea rfl ⟨sm.upd hD,?_⟩⟩⟩))
   ·rw [yaa,yaj,zcf]
    exact zai (by omega)
   ·rw [zab,StrLaws.found_one]
    have e:x.cps.toList[i]? = some c:=by simpa using hc
    rw [ybc,e,yah]
    rfl
  ·rintro τ H2 ⟨v,rfl,sm,hd⟩
   refine ⟨_,x.cps.toList.map fun c=>decide (c∈a.cps.toList),rfl,?_,?_⟩
   ·rw [hd,yaA (by simp),ybb]
    rfl
   ·refine q_of (k H2 sm) ?_
    rw [ycw]
    rfl
theorem zd0 (T:Txt K mg):FnOk P w K mg base CX0 2 T.is_name.f T.is_name.fd ["thing"] (zjY K):=by
 have G_has_only:FnOk P w K mg base CX0 1 T.has_only.f T.has_only.fd _ _:=zeB T
 refine T.is_name.fn.ok zjT (fun vs H Q E h => ?_) (fun cdv A outer s H vs Q E hr h => ?_)
 ·obtain ⟨v,rfl,_⟩:=h
  rfl
 ·obtain ⟨v,rfl,ht,k⟩:=h
  refine ⟨_,((zae (ps_if (zbF (zbz (zak (za3 (K:=K) rfl) (by rfl) T.b_isinstance zaE (zaa (pv 0) (zaa (zbH (v := .ty "str") rfl T.b_str zdk rfl) zad))))) (zah (zao pe_bl)) zau)
   (zah (zao (zgJ (zi4 op_le op_le zaf (zak za8 (by rfl) T.b_len za0 (zaa (pv 0) zad)) (zbJ rfl T.c_LONGEST_NAME (T.r_LONGEST_NAME))) (zgM (zam G_has_only (hr.mono (by decide)) rfl (zaa (zbJ rfl T.c_LETTERS (T.r_LETTERS)) (zaa (pv 0) zad))))))))),?_⟩
  obtain ⟨t1,y1,e1⟩:=zgC ht
  refine sq1 fun Rz1 qz1 => ?_
  refine (ea rfl ⟨_,_,_,ea rfl ⟨y1,e1,ea rfl ?_⟩⟩)
  cases v with
  | str x =>
   refine iteF ?_
   have hx:=ht.2 x rfl
   refine qz1 ?_
   refine (ea rfl (ea rfl ⟨zac (by omega),_,ea rfl ⟨rfl,ea rfl ?_⟩⟩))
   refine ite2 (fun h1 => ?_) (fun h1 => ?_)
   ·have h1:(1:Int)≤(x.length:Int):=of_decide_eq_true h1
    refine ⟨_,ea rfl ⟨rfl,ea rfl ?_⟩⟩
    refine ite2 (fun h2 => ?_) (fun h2 => ?_)
    ·have h2:(x.length:Int)≤8:=of_decide_eq_true h2
     refine (ea rfl ⟨_,ea rfl ⟨hx,fun H' s'=>q_of (k H' s') ?_⟩⟩)
     show isNm x=_
     unfold isNm
     rw [decide_eq_true (by omega:1≤x.length),decide_eq_true (by omega:x.length≤8)]
     exact congrArg (fun f=>x.cps.toList.all f) (funext fun c=>(ze6 c).symm)
    ·refine q_of (k H (Same.refl H)) ?_
     show isNm x=_
     have h2:¬ (x.length:Int)≤8:=fun z=>h2 (decide_eq_true z)
     unfold isNm
     rw [decide_eq_false (by omega:¬ x.length≤8),yfo,ycD]
   ·have h1:¬ (1:Int)≤(x.length:Int):=fun z=>h1 (decide_eq_true z)
    refine (ea rfl (iteF (q_of (k H (Same.refl H)) ?_)))
    show isNm x=_
    unfold isNm
    rw [decide_eq_false (by omega:¬ 1≤x.length),ycD,ycD]
  | _=>exact iteT (k H (Same.refl H))
theorem zeJ (T:Txt K mg):FnOk P w K mg base CX0 3 T.is_value.f T.is_value.fd ["kind", "thing"] (zie K):=by
 have G_is_name:FnOk P w K mg base CX0 2 T.is_name.f T.is_name.fd _ _:=zd0 T
 have G_is_whole:FnOk P w K mg base CX0 1 T.is_whole.f T.is_whole.fd _ _:=zhT T
 refine T.is_value.fn.ok zh8 (fun vs H Q E h => ?_) (fun cdv A outer s H vs Q E hr h => ?_)
 ·obtain ⟨kd,v,rfl,_⟩:=h
  rfl
 ·obtain ⟨kd,v,rfl,hk,ht,k⟩:=h
  refine ⟨_,((zae (ps_if (zan op_eq (pv 0) zay (zaA _)) (zah (zao (zgJ (zam G_is_whole (hr.mono (by decide)) rfl (zaa (pv 1) zad)) (zgM (zi4 op_le op_le (pe_un zdQ (zbJ rfl T.c_GREATEST (T.r_GREATEST))) (pv 1) (zbJ rfl T.c_GREATEST (T.r_GREATEST))))))) zau)
   (zah (zao (zgJ (zeu op_eq (pv 0) zay (zaA _)) (zgM (zam G_is_name (hr.mono (by decide)) rfl (zaa (pv 1) zad)))))))),?_⟩
  refine sq1 fun Rz2 qz2 => ?_
  refine (ea rfl ⟨rfl,ea rfl ?_⟩)
  rcases hk with rfl | rfl
  ·refine ite2 (fun _ => ?_) (fun z=>absurd (decide_eq_true rfl) z)
   refine (ea rfl (ea rfl ⟨ht,ea rfl ?_⟩))
   have k':∀ b,isNum v=b→Q (.bl b) H:=fun b e=>q_of (k H (Same.refl H)) (by rw [zbr];exact e)
   cases v with
   | int i =>
    refine iteT (ea rfl (ea rfl ⟨_,ea rfl ⟨rfl,ea rfl ?_⟩⟩))
    refine ite2 (fun h1 => ?_) (fun h1 => ?_)
    ·refine ⟨_,ea rfl ⟨rfl,k' _ ?_⟩⟩
     show (decide (-1000000000≤i)&&decide (i≤1000000000))=_
     rw [show decide (-1000000000≤i)=true from h1,ydv]
    ·refine k' _ ?_
     show (decide (-1000000000≤i)&&decide (i≤1000000000))=_
     rw [show decide (-1000000000≤i)=false from by simpa using h1,ycD]
   | _=>exact iteF (k' _ rfl)
  ·refine ite2 (fun z=>absurd z (by decide +kernel)) (fun _ => ?_)
   refine qz2 ?_
   refine (ea rfl ⟨rfl,ea rfl ?_⟩)
   refine ite2 (fun _ => ?_) (fun z=>absurd (decide_eq_true rfl) z)
   exact (ea rfl (ea rfl ⟨ht,fun H' s'=>q_of (k H' s') (zb6 v)⟩))
end
abbrev Col:=Str×Str
def colV (c:Col):List V := [.str c.1,.str c.2]
def okCol (c:Col):Prop:=isNm c.1=true∧(c.2 = "number"∨c.2 = "word")
def ColsAt (H:Hp) (qs:List Addr) (cs:List Col):Prop:=Paired (fun q c=>H q=some (.tup (colV c))) qs cs
theorem ColsAt.same {H H':Hp} {qs:List Addr} {cs:List Col} (h:ColsAt H qs cs) (s:Same H H'):ColsAt H' qs cs:=Paired.mapP h fun _ _ e=>s _ _ e
def Sq (H:Hp) (a:Addr) (xs:List V):Prop:=H a=some (.lst xs)∨H a=some (.tup xs)
theorem Sq.same {H H':Hp} {a:Addr} {xs:List V} (h:Sq H a xs) (s:Same H H'):Sq H' a xs:=h.imp (s _ _) (s _ _)
def okTab (n:Str) (cs:List Col):Prop:=isNm n=true∧1≤cs.length∧cs.length≤4∧(∀ c∈cs,okCol c)∧(cs.map (·.1)).Nodup
def sp_few_of:Sp:=fun vs H Q _=>∃ (a:Addr) (xs:List V) (m:Int),vs = [.ref a,.int m]∧Sq H a xs∧m≤xs.length∧xs.length≤4∧∀ H',Same H H'→Q (.ref a) H'
def zjP:Sp:=fun vs H Q _=>∃ (a:Addr) (x y:V),vs = [.ref a]∧H a=some (.tup [x,y])∧Q (.ref a) H
def zgu:Sp:=fun vs H Q _=>∃ x,vs = [.str x]∧isNm x=true∧∀ H',Same H H'→Q (.str x) H'
def zfr:Sp:=fun vs H Q _=>(∃ (a:Addr) (ys:List Str),vs = [.ref a]∧H a=some (.lst (ys.map V.str))∧ys.Nodup∧ys.length≤1000∧∀ H',Same H H'→Q .non H') ∨
 ∃ (a:Addr) (qs:List Addr) (cs:List Col),vs = [.ref a]∧H a=some (.tup (qs.map V.ref))∧ColsAt H qs cs∧cs.Nodup∧qs.length≤4∧∀ H',Same H H'→Q .non H'
def zfl:Sp:=fun vs H Q _=>∃ (a:Addr) (c:Col),vs = [.ref a]∧H a=some (.tup (colV c))∧okCol c∧∀ (r:Addr) (H':Hp),H r=none→Same H H'→H' r=some (.tup (colV c))→Q (.ref r) H'
def zf3:Sp:=fun vs H Q _=>∃ (a ca:Addr) (qs:List Addr) (n:Str) (cs:List Col),vs = [.ref a]∧H a=some (.tup [.str n,.ref ca])∧Sq H ca (qs.map V.ref)∧ColsAt H qs cs∧okTab n cs ∧
 ∀ (r ca':Addr) (qs':List Addr) (H':Hp),H r=none→Same H H'→H' r=some (.tup [.str n,.ref ca'])→H' ca'=some (.tup (qs'.map V.ref))→ColsAt H' qs' cs→Q (.ref r) H'
def colK (c:Col):List Key := [.inr c.1,.inr c.2]
theorem colK_inj {a b:Col} (h:colK a=colK b):a=b:=by
 injection h with h1 h2
 injection h2 with h2 _
 injection h1 with h1
 injection h2 with h2
 exact Prod.ext h1 h2
theorem zfH:∀ {cs:List Col},cs.Nodup→(cs.map colK).Nodup
 | [],_=>yfv
 | c :: cs,h=>by
  rw [yb5] at h
  rw [yan,yb5]
  refine ⟨fun z => ?_,zfH h.2⟩
  obtain ⟨d,hd,e⟩:=yaG.mp z
  exact h.1 (colK_inj e ▸ hd)
theorem colsK:∀ {H:Hp} {qs:List Addr} {cs:List Col},ColsAt H qs cs→∀ {i:Nat} {q:Addr} {k:List Key},qs[i]? = some q→(cs.map colK)[i]? = some k→H q=some (.tup (k.map kV))
 | _,_,_,.nil,i,_,_,e,_=>by simp at e
 | _,_,_,.cons r _,0,_,_,e1,e2=>by cases e1;cases e2;exact r
 | _,_,_,.cons _ t,i+1,_,_,e1,e2=>colsK t (i:=i) e1 e2
theorem units4 {k:Nat} {A:Around} (hr:Room k A):A.units+4 < cLine:=by have:=hr.un;omega
theorem nm_len {x:Str} (h:isNm x=true):x.length≤10000:=by
 unfold isNm at h
 simp only [yaL,decide_eq_true_eq] at h
 omega
theorem kit_lt {K:PySem.W.Frag}:PySem.W.kitAny K (.type "list") [.type "list",.type "tuple"]=some true:=by rfl
theorem kit_tt {K:PySem.W.Frag}:PySem.W.kitAny K (.type "tuple") [.type "list",.type "tuple"]=some true:=by rfl
section
variable {P:Program} {w:World} {K:PySem.W.Frag} {mg:Str→Option Value} {base:Heap}
theorem zeV (T:Txt K mg):FnOk P w K mg base CX0 1 T.few_of.f T.few_of.fd ["thing", "least"] sp_few_of:=by
 refine T.few_of.fn.ok sc_few_of (fun vs H Q E h => ?_) (fun cdv A outer s H vs Q E hr h => ?_)
 ·obtain ⟨a,xs,m,rfl,_⟩:=h
  rfl
 ·obtain ⟨a,xs,m,rfl,hq,h0,h1,q⟩:=h
  refine ⟨_,((zae (ps_if (PW.pt (pw_or (zbF (zbz (zak (zjL (K:=K) rfl) (by rfl) T.b_isinstance zaE (zaa (pv 0) (zaa (zce (zaa (zbH (v := .ty "list") rfl T.b_list ze1 rfl) (zaa (zbH (v := .ty "tuple") rfl T.b_tuple zbT rfl) zad))) zad))))) (zbn (zbF (zgo op_le op_le (pv 1) (zak (zap (K:=K) rfl) (by rfl) T.b_len za0 (zaa (pv 0) zad)) (zbJ rfl T.c_MOST (T.r_MOST))))))) (zah zci) zau)
   (zah (zao (pv 0))))),?_⟩
  refine (ea rfl ⟨zac (show 2≤100000 by decide),fun tp htp => ?_⟩)
  have sm:Same H (upd H tp (.tup [.ty "list",.ty "tuple"])):=Same.new htp
  have l0:m≤((xs.length:Nat):Int):=h0
  have l1:((xs.length:Nat):Int)≤4:=by omega
  rcases hq with hq | hq
  ·refine ⟨_,tp,_,_,["list", "tuple"],rfl,zab,.lst (sm _ _ hq),kit_lt,ea rfl (iteF ?_)⟩
   refine (ea rfl (ea rfl ⟨a,ea rfl ⟨.inl (SqL.of (sm _ _ hq)),_,ea rfl ⟨rfl,ea rfl (ite2 (fun z1 => ?_) (fun z1=>absurd (decide_eq_true l0) z1))⟩⟩⟩))
   refine ⟨_,ea rfl ⟨rfl,ea rfl (ite2 (fun z=>absurd z ?_) (fun _=>(ea rfl (q _ sm))))⟩⟩
   rw [decide_eq_true l1]
   decide
  ·refine ⟨_,tp,_,_,["list", "tuple"],rfl,zab,.tup (sm _ _ hq),kit_tt,ea rfl (iteF ?_)⟩
   refine (ea rfl (ea rfl ⟨a,ea rfl ⟨.inr (SqT.of (sm _ _ hq)),_,ea rfl ⟨rfl,ea rfl (ite2 (fun z1 => ?_) (fun z1=>absurd (decide_eq_true l0) z1))⟩⟩⟩))
   refine ⟨_,ea rfl ⟨rfl,ea rfl (ite2 (fun z=>absurd z ?_) (fun _=>(ea rfl (q _ sm))))⟩⟩
   rw [decide_eq_true l1]
   decide
theorem zd1 (T:Txt K mg):FnOk P w K mg base CX0 1 T.pair_of.f T.pair_of.fd ["thing"] zjP:=by
 refine T.pair_of.fn.ok zjX (fun vs H Q E h => ?_) (fun cdv A outer s H vs Q E hr h => ?_)
 ·obtain ⟨a,x,y,rfl,_⟩:=h
  rfl
 ·obtain ⟨a,x,y,rfl,ha,q⟩:=h
  refine ⟨_,((zae (ps_if (PW.pt (pw_or (zbF (zbz (zak (za3 (K:=K) rfl) (by rfl) T.b_isinstance zaE (zaa (pv 0) (zaa (zbH (v := .ty "tuple") rfl T.b_tuple zbT rfl) zad))))) (zbn (zan op_ne (zak (zap (K:=K) rfl) (by rfl) T.b_len za0 (zaa (pv 0) zad)) zaf (zaA _))))) (zah zci) zau)
   (zah (zao (pv 0))))),?_⟩
  refine sq1 fun Rz1 qz1 => ?_
  refine (ea rfl ⟨_,_,_,ea rfl ⟨.tup ha,zbR,ea rfl (iteF ?_)⟩⟩)
  refine (ea rfl ⟨a,ea rfl ⟨.inr (SqT.of ha),rfl,ea rfl (ite2 (fun z=>absurd z (by simp)) (fun _ => ?_))⟩⟩)
  refine qz1 ?_
  exact (ea rfl q)
theorem zcW (T:Txt K mg):FnOk P w K mg base CX0 3 T.need_name.f T.need_name.fd ["thing"] zgu:=by
 have G_is_name:FnOk P w K mg base CX0 2 T.is_name.f T.is_name.fd _ _:=zd0 T
 refine T.need_name.fn.ok zgQ (fun vs H Q E h => ?_) (fun cdv A outer s H vs Q E hr h => ?_)
 ·obtain ⟨x,rfl,_⟩:=h
  rfl
 ·obtain ⟨x,rfl,hx,q⟩:=h
  refine ⟨_,((zae (ps_if (zbF (zbz (zam G_is_name (hr.mono (by decide)) rfl (zaa (pv 0) zad)))) (zah zci) zau)
   (zah (zao (pv 0))))),?_⟩
  refine sq1 fun Rz2 qz2 => ?_
  refine (ea rfl (ea rfl ⟨Thing.str (nm_len hx),fun H1 s1=>(ea rfl (ite2 (fun z=>absurd z (by simp [zez,hx])) (fun _ => ?_)))⟩))
  refine qz2 ?_
  exact (ea rfl (q H1 s1))
theorem zcr (T:Txt K mg):FnOk P w K mg base CX0 1 T.need_unlike.f T.need_unlike.fd ["things"] zfr:=by
 refine T.need_unlike.fn.ok zfs (fun vs H Q E h => ?_) (fun cdv A outer s H vs Q E hr h => ?_)
 ·rcases h with ⟨a,ys,rfl,_⟩ | ⟨a,qs,cs,rfl,_⟩ <;> rfl
 ·rcases h with ⟨a,ys,rfl,ha,nd,hl,q⟩ | ⟨a,qs,cs,rfl,ha,hc,nd,hl,q⟩
  ·have hu4:=units4 hr
   refine ⟨_,((zah (ps_if (zan op_ne (zak zdD (by rfl) T.b_len za0 (zaa (zav (CallR.or (zfO (K:=K) rfl rfl) (zfA (K:=K) rfl rfl hu4)) (by rfl) T.b_set ziH (zaa (pv 0) zad)) zad)) (zak (zap (K:=K) rfl) (by rfl) T.b_len za0 (zaa (pv 0) zad)) (zaA _)) (zah zci) zau))),?_⟩
   refine (ea rfl (.inl ⟨a,ys,rfl,SqL.of ha,nd,hl,fun l hl1 => ?_⟩))
   have sm:Same H (upd H l (setO l ys.length)):=Same.new hl1
   refine ⟨l,ea rfl ⟨zab,hl,ea rfl ⟨a,ea rfl ⟨.inl (SqL.of (sm _ _ ha)),rfl,ea rfl (ite2 (fun z=>absurd z (by simp)) (fun _=>q _ sm))⟩⟩⟩⟩
  ·have hu4:=units4 hr
   refine ⟨_,((zah (ps_if (zan op_ne (zak zdD (by rfl) T.b_len za0 (zaa (zav (CallR.or (zfO (K:=K) rfl rfl) (zfA (K:=K) rfl rfl hu4)) (by rfl) T.b_set ziH (zaa (pv 0) zad)) zad)) (zak (zap (K:=K) rfl) (by rfl) T.b_len za0 (zaa (pv 0) zad)) (zaA _)) (zah zci) zau))),?_⟩
   refine (ea rfl (.inr ⟨a,qs,cs.map colK,rfl,SqT.of ha,by rw [yaa];exact (yaz hc).symm,hl,zfH nd,fun i q k e1 e2=>colsK hc e1 e2,fun l hl1 => ?_⟩))
   have sm:Same H (upd H l (setO l qs.length)):=Same.new hl1
   refine ⟨l,ea rfl ⟨zab,by omega,ea rfl ⟨a,ea rfl ⟨.inr (SqT.of (sm _ _ ha)),rfl,ea rfl (ite2 (fun z=>absurd z (by simp)) (fun _=>q _ sm))⟩⟩⟩⟩
end
section
variable {P:Program} {w:World} {K:PySem.W.Frag} {mg:Str→Option Value} {base:Heap}
theorem kinds_in (T:Txt K mg) (H:Hp):SqT K H T.D_KINDS [.str "number",.str "word"] := .inr T.t_KINDS
theorem kind_in {k:Str} (h:k = "number"∨k = "word"):inV (.str k) [.str "number",.str "word"]=true:=by
 rcases h with rfl | rfl <;> decide +kernel
theorem zfw (T:Txt K mg):FnOk P w K mg base CX0 4 T.column_from.f T.column_from.fd ["thing"] zfl:=by
 have G_pair_of:FnOk P w K mg base CX0 1 T.pair_of.f T.pair_of.fd _ _:=zd1 T
 have G_need_name:FnOk P w K mg base CX0 3 T.need_name.f T.need_name.fd _ _:=zcW T
 refine T.column_from.fn.ok sc_column_from (fun vs H Q E h => ?_) (fun cdv A outer s H vs Q E hr h => ?_)
 ·obtain ⟨a,c,rfl,_⟩:=h
  rfl
 ·obtain ⟨a,c,rfl,ha,⟨hn,hk⟩,q⟩:=h
  refine ⟨_,((zae (zat (i:=1) sc_column_from.nd rfl (yaR rfl) (zam G_pair_of (hr.mono (by decide)) rfl (zaa (pv 0) zad)))
   (zae (ps_if (PW.pt (pw_or (zbF (zbz (zak (za3 (K:=K) rfl) (by rfl) T.b_isinstance zaE (zaa (pe_ix (zaK (K:=K) rfl) (pv 1) zaf (fun _ _=>rfl)) (zaa (zbH (v := .ty "str") rfl T.b_str zdk rfl) zad))))) (zbn (zan (zcL (K:=K) rfl) (pe_ix (zaK (K:=K) rfl) (pv 1) zaf (fun _ _=>rfl)) (zbJ (v := .ref T.D_KINDS) rfl T.c_KINDS rfl) (by with_unfolding_all rfl))))) (zah zci) zau)
   (zah (zao (zce (zaa (zam G_need_name (hr.mono (by decide)) rfl (zaa (pe_ix (zaK (K:=K) rfl) (pv 1) zaf (fun _ _=>rfl)) zad)) (zaa (pe_ix (zaK (K:=K) rfl) (pv 1) zaf (fun _ _=>rfl)) zad)))))))),?_⟩
  refine sq1 fun Rz1 qz1 => ?_
  refine (ea rfl ⟨a,_,ea rfl ⟨ha,?_⟩⟩)
  refine qz1 ?_
  refine (ea rfl (ixTc (SqT.of ha) rfl ⟨_,_,_,ea rfl ⟨.str c.2,zbR,ea rfl (iteF ?_)⟩⟩))
  refine (ea rfl (ixTc (SqT.of ha) rfl ⟨T.D_KINDS,ea rfl ⟨.inr (kinds_in T _),rfl,rfl,ea rfl ?_⟩⟩))
  rw [if_pos rfl,kind_in hk]
  refine iteF (ea rfl (ixTc (SqT.of ha) rfl (ea rfl ⟨hn,fun H1 s1 => ?_⟩)))
  refine (ea rfl (ixTc (SqT.of (s1 _ _ ha)) rfl ⟨zac (show 2≤100000 by decide),fun r hr1 => ?_⟩))
  exact q r _ (s1.free hr1) (s1.upd (s1.free hr1)) zab
theorem ColsAt.updL {H:Hp} {qs:List Addr} {cs:List Col} {D:Addr} {xs:List V} {o:HO} (h:ColsAt H qs cs) (hd:H D=some (.lst xs)):ColsAt (upd H D o) qs cs :=
 Paired.mapP h fun q c e=>by rw [zar (ne_of e hd (fun z=>nomatch z))];exact e
theorem Paired.snoc {α β:Type} {R:α→β→Prop}:∀ {as:List α} {bs:List β} {a:α} {b:β},Paired R as bs→R a b→Paired R (as ++ [a]) (bs ++ [b])
 | _,_,_,_,.nil,r => .cons r .nil
 | _,_,_,_,.cons q t,r => .cons q (Paired.snoc t r)
theorem zf2 (T:Txt K mg):FnOk P w K mg base CX0 5 T.table_from.f T.table_from.fd ["thing"] zf3:=by
 have G_pair_of:FnOk P w K mg base CX0 1 T.pair_of.f T.pair_of.fd _ _:=zd1 T
 have G_few_of:FnOk P w K mg base CX0 1 T.few_of.f T.few_of.fd _ _:=zeV T
 have G_need_unlike:FnOk P w K mg base CX0 1 T.need_unlike.f T.need_unlike.fd _ _:=zcr T
 have G_need_name:FnOk P w K mg base CX0 3 T.need_name.f T.need_name.fd _ _:=zcW T
 have G_column_from:FnOk P w K mg base CX0 4 T.column_from.f T.column_from.fd _ _:=zfw T
 refine T.table_from.fn.ok sc_table_from (fun vs H Q E h => ?_) (fun cdv A outer s H vs Q E hr h => ?_)
 ·obtain ⟨a,ca,qs,n,cs,rfl,_⟩:=h
  rfl
 ·obtain ⟨a,ca,qs,n,cs,rfl,ha,hq,hc,⟨hn,l0,l1,hok,nd⟩,q⟩:=h
  have ql:qs.length=cs.length:=yaz hc
  refine ⟨_,((zae (zat (i:=1) sc_table_from.nd rfl (yaR rfl) (zam G_pair_of (hr.mono (by decide)) rfl (zaa (pv 0) zad)))
   (zae (zat (i:=2) sc_table_from.nd rfl (yaR rfl) (zav (zbl (K:=K) rfl) (by rfl) T.b_tuple zbT (zaa (zaR (N := ["part"]) (own:=1) (caps := []) rfl (by kernel_rfl) (by kernel_rfl) (pi_or (zaQ (K:=K) rfl (zam G_few_of (hr.mono (by decide)) rfl (zaa (pe_ix (zaK (K:=K) rfl) (pv 1) zaf (fun _ _=>rfl)) (zaa zaf zad)))) (zca (K:=K) rfl (zam G_few_of (hr.mono (by decide)) rfl (zaa (pe_ix (zaK (K:=K) rfl) (pv 1) zaf (fun _ _=>rfl)) (zaa zaf zad))))) (fun _ _ _ _ _=>zal (i:=0) (show List.Nodup (["part"]:List Str) by decide +kernel) rfl (yaR rfl)) (fun _ _ _ _ _=>zaM) (fun _ _ _ _ _=>(zam G_column_from (hr.mono (by decide)) rfl (zaa (pv 0) zad)))) zad)))
   (zae (zbp (zam G_need_unlike (hr.mono (by decide)) rfl (zaa (zaR (N := ["column"]) (own:=1) (caps := []) rfl (by kernel_rfl) (by kernel_rfl) (zca (K:=K) rfl (pv 2)) (fun _ _ _ _ _=>zal (i:=0) (show List.Nodup (["column"]:List Str) by decide +kernel) rfl (yaR rfl)) (fun _ _ _ _ _=>zaM) (fun _ _ _ _ _=>(pe_ix (zaK (K:=K) rfl) (pv 0) zaf (fun _ _=>rfl)))) zad)))
   (zah (zao (zce (zaa (zam G_need_name (hr.mono (by decide)) rfl (zaa (pe_ix (zaK (K:=K) rfl) (pv 1) zaf (fun _ _=>rfl)) zad)) (zaa (pv 2) zad))))))))),?_⟩
  refine sq1 fun Rz2 qz2 => ?_
  refine (ea rfl ⟨a,_,ea rfl ⟨ha,?_⟩⟩)
  rcases hq with hq | hq
  ·refine qz2 (sq1 fun Rz3 qz3 => ?_)
   refine .inl (ea rfl (ixTc (SqT.of ha) rfl ⟨ca,_,1,rfl,.inl hq,by rw [yaa];omega,by rw [yaa];omega,fun H1 s1=>⟨ca,rfl,⟨_,SqL.of (s1 _ _ hq)⟩,fun D hD => ?_⟩⟩))
   refine zaz (J:=Itl K ca) qs.length (fun j τ H2=>∃ (v:Option V) (rs:List Addr),τ = [v]∧Same H1 H2∧H2 D=some (.lst (rs.map V.ref))∧ColsAt H2 rs (cs.take j))
    ⟨none,[],rfl,Same.new hD,zab,.nil⟩
    (fun j τ H2 hj ⟨_,_,_,sm,_⟩=>⟨_,.ref qs[j],SqL.of (sm _ _ (s1 _ _ hq)),by rw [yae,yab hj];rfl⟩)
    (by rintro τ H2 ⟨_,_,_,sm,_⟩;exact ⟨_,SqL.of (sm _ _ (s1 _ _ hq)),by rw [yaa];exact yag _⟩) ?_ ?_
   ·rintro j τ H2 y H3 hj ⟨v,rs,rfl,sm,hd,hcs⟩ ⟨rfl,hy⟩
    have ey:=hy _ (SqL.of (sm _ _ (s1 _ _ hq)))
    rw [yae,yab hj] at ey
    cases ey
    have hj':j < cs.length:=by omega
    refine (ea rfl ⟨qs[j],cs[j],rfl,sm _ _ (s1 _ _ (Paired.at hc j hj hj')),hok _ (yam hj'),fun r H' hr1 s' hR => ?_⟩)
    have rl:rs.length=j:=by rw [yaz hcs,yaj];omega
    refine ⟨_,s' _ _ hd,?_,⟨_,rs ++ [r],rfl,(sm.trans s').upd hD,by rw [zab,yah];rfl,?_⟩⟩
    ·rw [yaa];exact zai (by omega)
    ·rw [yaB hj']
     exact Paired.snoc ((hcs.same s').updL (s' _ _ hd)) (by rw [zar (ne_of hR (s' _ _ hd) (fun z=>nomatch z))];exact hR)
   ·rintro τ H2 ⟨v,rs,rfl,sm,hd,hcs⟩
    rw [ql,yba] at hcs
    refine ⟨D,ea rfl (.inl ⟨SqL.of hd,fun t ht => ?_⟩)⟩
    have s3:Same H2 (upd H2 t (.tup (rs.map V.ref))):=Same.new ht
    have hT:upd H2 t (.tup (rs.map V.ref)) t=some (.tup (rs.map V.ref)):=zab
    have rl:rs.length=cs.length:=yaz hcs
    have hc3:=hcs.same s3
    have S3:Same H (upd H2 t (.tup (rs.map V.ref))):=(s1.trans sm).trans s3
    generalize upd H2 t (.tup (rs.map V.ref))=H3 at s3 hT hc3 S3 ⊢
    refine qz3 (sq1 fun Rz4 qz4 => ?_)
    refine (ea rfl ⟨t,rfl,⟨_,SqT.of hT⟩,fun D2 hD2 => ?_⟩)
    refine zaz (J:=Itt K t) rs.length (fun j τ H4=>∃ (v:Option V),τ = [v]∧Same H3 H4∧H4 D2=some (.lst ((((cs.take j).map (·.1))).map V.str)))
     ⟨none,rfl,Same.new hD2,zab⟩
     (fun j τ H4 hj ⟨_,_,sm,_⟩=>⟨_,.ref rs[j],SqT.of (sm _ _ hT),by rw [yae,yab hj];rfl⟩)
     (by rintro τ H4 ⟨_,_,sm,_⟩;exact ⟨_,SqT.of (sm _ _ hT),by rw [yaa];exact yag _⟩) ?_ ?_
    ·rintro j τ H4 y H5 hj ⟨v,rfl,sm4,hd4⟩ ⟨rfl,hy⟩
     have ey:=hy _ (SqT.of (sm4 _ _ hT))
     rw [yae,yab hj] at ey
     cases ey
     have hj':j < cs.length:=by omega
     refine (ea rfl (ixTc (SqT.of (sm4 _ _ (Paired.at hc3 j hj hj'))) rfl ⟨_,hd4,?_,(ea rfl ⟨sm4.upd hD2,?_⟩)⟩))
     ·rw [yaa,yaa,yaj];exact zai (by omega)
     ·rw [zab,yaB hj',yah,yah]
      rfl
    ·rintro τ H4 ⟨v,rfl,sm4,hd4⟩
     rw [rl,yba] at hd4
     refine .inl ⟨D2,cs.map (·.1),rfl,hd4,nd,by rw [yaa];omega,fun H5 s5 => ?_⟩
     have S5:Same H H5:=(S3.trans sm4).trans s5
     refine qz4 ?_
     refine (ea rfl (ixTc (SqT.of (S5 _ _ ha)) rfl ⟨n,rfl,hn,fun H6 s6 => ?_⟩))
     refine (ea rfl ⟨zac (show 2≤100000 by decide),fun r hr1 => ?_⟩)
     have S6:Same H H6:=S5.trans s6
     have T6:Same H3 H6:=(sm4.trans s5).trans s6
     have U6:Same H6 (upd H6 r (.tup [.str n,.ref t])):=Same.new hr1
     exact q r t rs _ (S6.free hr1) (S6.trans U6) zab (U6 _ _ (T6 _ _ hT)) ((hc3.same T6).same U6)
  ·refine qz2 (sq1 fun Rz5 qz5 => ?_)
   refine .inr (ea rfl (ixTc (SqT.of ha) rfl ⟨ca,_,1,rfl,.inr hq,by rw [yaa];omega,by rw [yaa];omega,fun H1 s1=>⟨ca,rfl,⟨_,SqT.of (s1 _ _ hq)⟩,fun D hD => ?_⟩⟩))
   refine zaz (J:=Itt K ca) qs.length (fun j τ H2=>∃ (v:Option V) (rs:List Addr),τ = [v]∧Same H1 H2∧H2 D=some (.lst (rs.map V.ref))∧ColsAt H2 rs (cs.take j))
    ⟨none,[],rfl,Same.new hD,zab,.nil⟩
    (fun j τ H2 hj ⟨_,_,_,sm,_⟩=>⟨_,.ref qs[j],SqT.of (sm _ _ (s1 _ _ hq)),by rw [yae,yab hj];rfl⟩)
    (by rintro τ H2 ⟨_,_,_,sm,_⟩;exact ⟨_,SqT.of (sm _ _ (s1 _ _ hq)),by rw [yaa];exact yag _⟩) ?_ ?_
   ·rintro j τ H2 y H3 hj ⟨v,rs,rfl,sm,hd,hcs⟩ ⟨rfl,hy⟩
    have ey:=hy _ (SqT.of (sm _ _ (s1 _ _ hq)))
    rw [yae,yab hj] at ey
    cases ey
    have hj':j < cs.length:=by omega
    refine (ea rfl ⟨qs[j],cs[j],rfl,sm _ _ (s1 _ _ (Paired.at hc j hj hj')),hok _ (yam hj'),fun r H' hr1 s' hR => ?_⟩)
    have rl:rs.length=j:=by rw [yaz hcs,yaj];omega
    refine ⟨_,s' _ _ hd,?_,⟨_,rs ++ [r],rfl,(sm.trans s').upd hD,by rw [zab,yah];rfl,?_⟩⟩
    ·rw [yaa];exact zai (by omega)
    ·rw [yaB hj']
     exact Paired.snoc ((hcs.same s').updL (s' _ _ hd)) (by rw [zar (ne_of hR (s' _ _ hd) (fun z=>nomatch z))];exact hR)
   ·rintro τ H2 ⟨v,rs,rfl,sm,hd,hcs⟩
    rw [ql,yba] at hcs
    refine ⟨D,ea rfl (.inl ⟨SqL.of hd,fun t ht => ?_⟩)⟩
    have s3:Same H2 (upd H2 t (.tup (rs.map V.ref))):=Same.new ht
    have hT:upd H2 t (.tup (rs.map V.ref)) t=some (.tup (rs.map V.ref)):=zab
    have rl:rs.length=cs.length:=yaz hcs
    have hc3:=hcs.same s3
    have S3:Same H (upd H2 t (.tup (rs.map V.ref))):=(s1.trans sm).trans s3
    generalize upd H2 t (.tup (rs.map V.ref))=H3 at s3 hT hc3 S3 ⊢
    refine qz5 (sq1 fun Rz6 qz6 => ?_)
    refine (ea rfl ⟨t,rfl,⟨_,SqT.of hT⟩,fun D2 hD2 => ?_⟩)
    refine zaz (J:=Itt K t) rs.length (fun j τ H4=>∃ (v:Option V),τ = [v]∧Same H3 H4∧H4 D2=some (.lst ((((cs.take j).map (·.1))).map V.str)))
     ⟨none,rfl,Same.new hD2,zab⟩
     (fun j τ H4 hj ⟨_,_,sm,_⟩=>⟨_,.ref rs[j],SqT.of (sm _ _ hT),by rw [yae,yab hj];rfl⟩)
     (by rintro τ H4 ⟨_,_,sm,_⟩;exact ⟨_,SqT.of (sm _ _ hT),by rw [yaa];exact yag _⟩) ?_ ?_
    ·rintro j τ H4 y H5 hj ⟨v,rfl,sm4,hd4⟩ ⟨rfl,hy⟩
     have ey:=hy _ (SqT.of (sm4 _ _ hT))
     rw [yae,yab hj] at ey
     cases ey
     have hj':j < cs.length:=by omega
     refine (ea rfl (ixTc (SqT.of (sm4 _ _ (Paired.at hc3 j hj hj'))) rfl ⟨_,hd4,?_,(ea rfl ⟨sm4.upd hD2,?_⟩)⟩))
     ·rw [yaa,yaa,yaj];exact zai (by omega)
     ·rw [zab,yaB hj',yah,yah]
      rfl
    ·rintro τ H4 ⟨v,rfl,sm4,hd4⟩
     rw [rl,yba] at hd4
     refine .inl ⟨D2,cs.map (·.1),rfl,hd4,nd,by rw [yaa];omega,fun H5 s5 => ?_⟩
     have S5:Same H H5:=(S3.trans sm4).trans s5
     refine qz6 ?_
     refine (ea rfl (ixTc (SqT.of (S5 _ _ ha)) rfl ⟨n,rfl,hn,fun H6 s6 => ?_⟩))
     refine (ea rfl ⟨zac (show 2≤100000 by decide),fun r hr1 => ?_⟩)
     have S6:Same H H6:=S5.trans s6
     have T6:Same H3 H6:=(sm4.trans s5).trans s6
     have U6:Same H6 (upd H6 r (.tup [.str n,.ref t])):=Same.new hr1
     exact q r t rs _ (S6.free hr1) (S6.trans U6) zab (U6 _ _ (T6 _ _ hT)) ((hc3.same T6).same U6)
end
abbrev Tab:=Str×List Col
def TabI (H:Hp) (t:Addr) (d:Tab):Prop:=∃ (ca:Addr) (qs:List Addr),H t=some (.tup [.str d.1,.ref ca])∧Sq H ca (qs.map V.ref)∧ColsAt H qs d.2
def TabT (H:Hp) (t:Addr) (d:Tab):Prop:=∃ (ca:Addr) (qs:List Addr),H t=some (.tup [.str d.1,.ref ca])∧H ca=some (.tup (qs.map V.ref))∧ColsAt H qs d.2
theorem TabI.same {H H':Hp} {t:Addr} {d:Tab} (h:TabI H t d) (s:Same H H'):TabI H' t d:=let ⟨ca,qs,a,b,c⟩:=h;⟨ca,qs,s _ _ a,b.same s,c.same s⟩
theorem TabT.same {H H':Hp} {t:Addr} {d:Tab} (h:TabT H t d) (s:Same H H'):TabT H' t d:=let ⟨ca,qs,a,b,c⟩:=h;⟨ca,qs,s _ _ a,s _ _ b,c.same s⟩
def TabsI (H:Hp) (ts:List Addr) (ds:List Tab):Prop:=Paired (TabI H) ts ds
def TabsT (H:Hp) (ts:List Addr) (ds:List Tab):Prop:=Paired (TabT H) ts ds
theorem TabsT.same {H H':Hp} {ts:List Addr} {ds:List Tab} (h:TabsT H ts ds) (s:Same H H'):TabsT H' ts ds:=Paired.mapP h fun _ _ e=>e.same s
theorem TabT.updL {H:Hp} {t D:Addr} {d:Tab} {xs:List V} {o:HO} (h:TabT H t d) (hd:H D=some (.lst xs)):TabT (upd H D o) t d:=by
 obtain ⟨ca,qs,a,b,c⟩:=h
 exact ⟨ca,qs,by rw [zar (ne_of a hd (fun z=>nomatch z))];exact a,by rw [zar (ne_of b hd (fun z=>nomatch z))];exact b,c.updL hd⟩
theorem TabsT.updL {H:Hp} {ts:List Addr} {D:Addr} {ds:List Tab} {xs:List V} {o:HO} (h:TabsT H ts ds) (hd:H D=some (.lst xs)):TabsT (upd H D o) ts ds:=Paired.mapP h fun _ _ e=>e.updL hd
def zcH (ds:List Tab):Prop:=1≤ds.length∧ds.length≤4∧(∀ d∈ds,okTab d.1 d.2)∧(ds.map (·.1)).Nodup
def zfd:Sp:=fun vs H Q _=>∃ (a:Addr) (ts:List Addr) (tabs:List Tab),vs = [.ref a]∧Sq H a (ts.map V.ref)∧TabsI H ts tabs∧zcH tabs ∧
 ∀ (r:Addr) (o:Obj) (ts':List Addr) (H':Hp),H r=none→Same H H'→H' r=some (.frz o (.tup (ts'.map V.ref)))→o.cls = .type "tuple"→o.dict=none→TabsT H' ts' tabs→Q (.ref r) H'
section
variable {P:Program} {w:World} {K:PySem.W.Frag} {mg:Str→Option Value} {base:Heap}
theorem zfq (T:Txt K mg):FnOk P w K mg base CX0 6 T.tables_from.f T.tables_from.fd ["thing"] zfd:=by
 have G_few_of:FnOk P w K mg base CX0 1 T.few_of.f T.few_of.fd _ _:=zeV T
 have G_need_unlike:FnOk P w K mg base CX0 1 T.need_unlike.f T.need_unlike.fd _ _:=zcr T
 have G_table_from:FnOk P w K mg base CX0 5 T.table_from.f T.table_from.fd _ _:=zf2 T
 refine T.tables_from.fn.ok sc_tables_from (fun vs H Q E h => ?_) (fun cdv A outer s H vs Q E hr h => ?_)
 ·obtain ⟨a,ts,tabs,rfl,_⟩:=h
  rfl
 ·obtain ⟨a,ts,tabs,rfl,hq,hi,⟨l0,l1,hok,nd⟩,q⟩:=h
  have tl:ts.length=tabs.length:=yaz hi
  refine ⟨_,((zae (zat (i:=1) sc_tables_from.nd rfl (yaR rfl) (zav (zeE (K:=K) rfl) (by rfl) T.b_tuple zbT (zaa (zaR (N := ["part"]) (own:=1) (caps := []) rfl (by kernel_rfl) (by kernel_rfl) (pi_or (zaQ (K:=K) rfl (zam G_few_of (hr.mono (by decide)) rfl (zaa (pv 0) (zaa zaf zad)))) (zca (K:=K) rfl (zam G_few_of (hr.mono (by decide)) rfl (zaa (pv 0) (zaa zaf zad))))) (fun _ _ _ _ _=>zal (i:=0) (show List.Nodup (["part"]:List Str) by decide +kernel) rfl (yaR rfl)) (fun _ _ _ _ _=>zaM) (fun _ _ _ _ _=>(zam G_table_from (hr.mono (by decide)) rfl (zaa (pv 0) zad)))) zad)))
   (zae (zbp (zam G_need_unlike (hr.mono (by decide)) rfl (zaa (zaR (N := ["table"]) (own:=1) (caps := []) rfl (by kernel_rfl) (by kernel_rfl) (zca (K:=K) rfl (pv 1)) (fun _ _ _ _ _=>zal (i:=0) (show List.Nodup (["table"]:List Str) by decide +kernel) rfl (yaR rfl)) (fun _ _ _ _ _=>zaM) (fun _ _ _ _ _=>(pe_ix (zaK (K:=K) rfl) (pv 0) zaf (fun _ _=>rfl)))) zad)))
   (zah (zao (pv 1)))))),?_⟩
  rcases hq with hq | hq
  ·refine sq1 fun Rz1 qz1 => ?_
   refine .inl (ea rfl ⟨a,_,1,rfl,.inl hq,by rw [yaa];omega,by rw [yaa];omega,fun H1 s1=>⟨a,rfl,⟨_,SqL.of (s1 _ _ hq)⟩,fun D hD => ?_⟩⟩)
   refine zaz (J:=Itl K a) ts.length (fun j τ H2=>∃ (v:Option V) (rs:List Addr),τ = [v]∧Same H1 H2∧H2 D=some (.lst (rs.map V.ref))∧TabsT H2 rs (tabs.take j))
    ⟨none,[],rfl,Same.new hD,zab,.nil⟩
    (fun j τ H2 hj ⟨_,_,_,sm,_⟩=>⟨_,.ref ts[j],SqL.of (sm _ _ (s1 _ _ hq)),by rw [yae,yab hj];rfl⟩)
    (by rintro τ H2 ⟨_,_,_,sm,_⟩;exact ⟨_,SqL.of (sm _ _ (s1 _ _ hq)),by rw [yaa];exact yag _⟩) ?_ ?_
   ·rintro j τ H2 y H3 hj ⟨v,rs,rfl,sm,hd,hcs⟩ ⟨rfl,hy⟩
    have ey:=hy _ (SqL.of (sm _ _ (s1 _ _ hq)))
    rw [yae,yab hj] at ey
    cases ey
    have hj':j < tabs.length:=by omega
    obtain ⟨ca,qs,t1,t2,t3⟩:=(Paired.at hi j hj hj').same (s1.trans sm)
    refine (ea rfl ⟨ts[j],ca,qs,tabs[j].1,tabs[j].2,rfl,t1,t2,t3,hok _ (yam hj'),fun r ca' qs' H' hr1 s' h1 h2 h3 => ?_⟩)
    have rl:rs.length=j:=by rw [yaz hcs,yaj];omega
    refine ⟨_,s' _ _ hd,?_,⟨_,rs ++ [r],rfl,(sm.trans s').upd hD,by rw [zab,yah];rfl,?_⟩⟩
    ·rw [yaa];exact zai (by omega)
    ·rw [yaB hj']
     exact Paired.snoc ((hcs.same s').updL (s' _ _ hd)) (TabT.updL ⟨ca',qs',h1,h2,h3⟩ (s' _ _ hd))
   ·rintro τ H2 ⟨v,rs,rfl,sm,hd,hcs⟩
    rw [tl,yba] at hcs
    refine ⟨D,ea rfl ⟨SqL.of hd,fun t o ht oc od => ?_⟩⟩
    have s3:Same H2 (upd H2 t (.frz o (.tup (rs.map V.ref)))):=Same.new ht
    have hT:upd H2 t (.frz o (.tup (rs.map V.ref))) t=some (.frz o (.tup (rs.map V.ref))):=zab
    have rl:rs.length=tabs.length:=yaz hcs
    have hc3:=hcs.same s3
    have S3:Same H (upd H2 t (.frz o (.tup (rs.map V.ref)))):=(s1.trans sm).trans s3
    have tf:H t=none:=(s1.trans sm).free ht
    generalize upd H2 t (.frz o (.tup (rs.map V.ref)))=H3 at s3 hT hc3 S3 ⊢
    have sq:∀ {H4:Hp},Same H3 H4→SqT K H4 t (rs.map V.ref):=fun s => .inl (.inr ⟨o,s _ _ hT⟩)
    refine qz1 (sq1 fun Rz2 qz2 => ?_)
    refine (ea rfl ⟨t,rfl,⟨_,sq (Same.refl _)⟩,fun D2 hD2 => ?_⟩)
    refine zaz (J:=Itt K t) rs.length (fun j τ H4=>∃ (v:Option V),τ = [v]∧Same H3 H4∧H4 D2=some (.lst ((((tabs.take j).map (·.1))).map V.str)))
     ⟨none,rfl,Same.new hD2,zab⟩
     (fun j τ H4 hj ⟨_,_,sm,_⟩=>⟨_,.ref rs[j],sq sm,by rw [yae,yab hj];rfl⟩)
     (by rintro τ H4 ⟨_,_,sm,_⟩;exact ⟨_,sq sm,by rw [yaa];exact yag _⟩) ?_ ?_
    ·rintro j τ H4 y H5 hj ⟨v,rfl,sm4,hd4⟩ ⟨rfl,hy⟩
     have ey:=hy _ (sq sm4)
     rw [yae,yab hj] at ey
     cases ey
     have hj':j < tabs.length:=by omega
     obtain ⟨ca,qs,t1,_,_⟩:=(Paired.at hc3 j hj hj').same sm4
     refine (ea rfl (ixTc (SqT.of t1) rfl ⟨_,hd4,?_,(ea rfl ⟨sm4.upd hD2,?_⟩)⟩))
     ·rw [yaa,yaa,yaj];exact zai (by omega)
     ·rw [zab,yaB hj',yah,yah]
      rfl
    ·rintro τ H4 ⟨v,rfl,sm4,hd4⟩
     rw [rl,yba] at hd4
     refine .inl ⟨D2,tabs.map (·.1),rfl,hd4,nd,by rw [yaa];omega,fun H5 s5 => ?_⟩
     have T5:Same H3 H5:=sm4.trans s5
     refine qz2 ?_
     exact (ea rfl (q t o rs H5 tf (S3.trans T5) (T5 _ _ hT) oc od (hc3.same T5)))
  ·refine sq1 fun Rz3 qz3 => ?_
   refine .inr (ea rfl ⟨a,_,1,rfl,.inr hq,by rw [yaa];omega,by rw [yaa];omega,fun H1 s1=>⟨a,rfl,⟨_,SqT.of (s1 _ _ hq)⟩,fun D hD => ?_⟩⟩)
   refine zaz (J:=Itt K a) ts.length (fun j τ H2=>∃ (v:Option V) (rs:List Addr),τ = [v]∧Same H1 H2∧H2 D=some (.lst (rs.map V.ref))∧TabsT H2 rs (tabs.take j))
    ⟨none,[],rfl,Same.new hD,zab,.nil⟩
    (fun j τ H2 hj ⟨_,_,_,sm,_⟩=>⟨_,.ref ts[j],SqT.of (sm _ _ (s1 _ _ hq)),by rw [yae,yab hj];rfl⟩)
    (by rintro τ H2 ⟨_,_,_,sm,_⟩;exact ⟨_,SqT.of (sm _ _ (s1 _ _ hq)),by rw [yaa];exact yag _⟩) ?_ ?_
   ·rintro j τ H2 y H3 hj ⟨v,rs,rfl,sm,hd,hcs⟩ ⟨rfl,hy⟩
    have ey:=hy _ (SqT.of (sm _ _ (s1 _ _ hq)))
    rw [yae,yab hj] at ey
    cases ey
    have hj':j < tabs.length:=by omega
    obtain ⟨ca,qs,t1,t2,t3⟩:=(Paired.at hi j hj hj').same (s1.trans sm)
    refine (ea rfl ⟨ts[j],ca,qs,tabs[j].1,tabs[j].2,rfl,t1,t2,t3,hok _ (yam hj'),fun r ca' qs' H' hr1 s' h1 h2 h3 => ?_⟩)
    have rl:rs.length=j:=by rw [yaz hcs,yaj];omega
    refine ⟨_,s' _ _ hd,?_,⟨_,rs ++ [r],rfl,(sm.trans s').upd hD,by rw [zab,yah];rfl,?_⟩⟩
    ·rw [yaa];exact zai (by omega)
    ·rw [yaB hj']
     exact Paired.snoc ((hcs.same s').updL (s' _ _ hd)) (TabT.updL ⟨ca',qs',h1,h2,h3⟩ (s' _ _ hd))
   ·rintro τ H2 ⟨v,rs,rfl,sm,hd,hcs⟩
    rw [tl,yba] at hcs
    refine ⟨D,ea rfl ⟨SqL.of hd,fun t o ht oc od => ?_⟩⟩
    have s3:Same H2 (upd H2 t (.frz o (.tup (rs.map V.ref)))):=Same.new ht
    have hT:upd H2 t (.frz o (.tup (rs.map V.ref))) t=some (.frz o (.tup (rs.map V.ref))):=zab
    have rl:rs.length=tabs.length:=yaz hcs
    have hc3:=hcs.same s3
    have S3:Same H (upd H2 t (.frz o (.tup (rs.map V.ref)))):=(s1.trans sm).trans s3
    have tf:H t=none:=(s1.trans sm).free ht
    generalize upd H2 t (.frz o (.tup (rs.map V.ref)))=H3 at s3 hT hc3 S3 ⊢
    have sq:∀ {H4:Hp},Same H3 H4→SqT K H4 t (rs.map V.ref):=fun s => .inl (.inr ⟨o,s _ _ hT⟩)
    refine qz3 (sq1 fun Rz4 qz4 => ?_)
    refine (ea rfl ⟨t,rfl,⟨_,sq (Same.refl _)⟩,fun D2 hD2 => ?_⟩)
    refine zaz (J:=Itt K t) rs.length (fun j τ H4=>∃ (v:Option V),τ = [v]∧Same H3 H4∧H4 D2=some (.lst ((((tabs.take j).map (·.1))).map V.str)))
     ⟨none,rfl,Same.new hD2,zab⟩
     (fun j τ H4 hj ⟨_,_,sm,_⟩=>⟨_,.ref rs[j],sq sm,by rw [yae,yab hj];rfl⟩)
     (by rintro τ H4 ⟨_,_,sm,_⟩;exact ⟨_,sq sm,by rw [yaa];exact yag _⟩) ?_ ?_
    ·rintro j τ H4 y H5 hj ⟨v,rfl,sm4,hd4⟩ ⟨rfl,hy⟩
     have ey:=hy _ (sq sm4)
     rw [yae,yab hj] at ey
     cases ey
     have hj':j < tabs.length:=by omega
     obtain ⟨ca,qs,t1,_,_⟩:=(Paired.at hc3 j hj hj').same sm4
     refine (ea rfl (ixTc (SqT.of t1) rfl ⟨_,hd4,?_,(ea rfl ⟨sm4.upd hD2,?_⟩)⟩))
     ·rw [yaa,yaa,yaj];exact zai (by omega)
     ·rw [zab,yaB hj',yah,yah]
      rfl
    ·rintro τ H4 ⟨v,rfl,sm4,hd4⟩
     rw [rl,yba] at hd4
     refine .inl ⟨D2,tabs.map (·.1),rfl,hd4,nd,by rw [yaa];omega,fun H5 s5 => ?_⟩
     have T5:Same H3 H5:=sm4.trans s5
     refine qz4 ?_
     exact (ea rfl (q t o rs H5 tf (S3.trans T5) (T5 _ _ hT) oc od (hc3.same T5)))
end
theorem zfQ {k:Str}:∀ {L:List Str},inV (.str k) (L.map V.str)=decide (k∈L)
 | []=>rfl
 | y :: L=>by
  have ih:=zfQ (k:=k) (L:=L)
  unfold inV at ih ⊢
  rw [yan,ycS,ih]
  by_cases e:y=k
  ·subst e
   simp [eqV]
  ·have e':¬ k=y:=fun z=>e z.symm
   simp [eqV,e,e']
theorem strs_flat (L:List Str):(L.map V.str).all flatV=true:=by
 rw [ycw,yaP]
 intro x _
 rfl
theorem cut_one {xs:List V} (h:1≤xs.length):cutV xs (some 1) none=xs.drop 1∧¬ (HT.sIx xs.length 0 (some 1)=0∧HT.sIx xs.length xs.length none=xs.length):=by
 have e:HT.sIx xs.length 0 (some 1)=1:=by unfold HT.sIx;simp;omega
 have e2:HT.sIx xs.length xs.length none=xs.length:=rfl
 refine ⟨?_,fun z=>by rw [e] at z;exact absurd z.1 (by decide)⟩
 unfold cutV
 rw [e,e2,yaA (by rw [yaX];exact yag _)]
def okOrd (ds:List Tab) (c:Col):Prop:=isNm c.1=true∧isNm c.2=true∧∃ (k:Nat) (hk:k < ds.length),ds[k].1=c.1∧c.2∈(ds[k].2.drop 1).map (·.1)
def zgc:Sp:=fun vs H Q _=>∃ (a b:Addr) (o:Obj) (ts:List Addr) (tabs:List Tab) (c:Col),vs = [.ref a,.ref b]∧H a=some (.frz o (.tup (ts.map V.ref)))∧TabsT H ts tabs∧zcH tabs∧H b=some (.tup (colV c))∧okOrd tabs c ∧
 ∀ (r:Addr) (H':Hp),H r=none→Same H H'→H' r=some (.tup (colV c))→Q (.ref r) H'
section
variable {P:Program} {w:World} {K:PySem.W.Frag} {mg:Str→Option Value} {base:Heap}
theorem zgl (T:Txt K mg):FnOk P w K mg base CX0 4 T.order_from.f T.order_from.fd ["tables", "thing"] zgc:=by
 have G_pair_of:FnOk P w K mg base CX0 1 T.pair_of.f T.pair_of.fd _ _:=zd1 T
 have G_need_name:FnOk P w K mg base CX0 3 T.need_name.f T.need_name.fd _ _:=zcW T
 refine T.order_from.fn.ok sc_order_from (fun vs H Q E h => ?_) (fun cdv A outer s H vs Q E hr h => ?_)
 ·obtain ⟨a,b,o,ts,tabs,c,rfl,_⟩:=h
  rfl
 ·obtain ⟨a,b,o,ts,tabs,c,rfl,ha,hT,⟨l0,l1,hok,nd⟩,hb,⟨n1,n2,k,hk,k1,k2⟩,q⟩:=h
  have tl:ts.length=tabs.length:=yaz hT
  refine ⟨_,((zae (zat (i:=2) sc_order_from.nd rfl (yaR rfl) (zam G_pair_of (hr.mono (by decide)) rfl (zaa (pv 1) zad)))
   (zae (zat (i:=3) sc_order_from.nd rfl (yaR rfl) (zce (zaa (zam G_need_name (hr.mono (by decide)) rfl (zaa (pe_ix (zaK (K:=K) rfl) (pv 2) zaf (fun _ _=>rfl)) zad)) (zaa (zam G_need_name (hr.mono (by decide)) rfl (zaa (pe_ix (zaK (K:=K) rfl) (pv 2) zaf (fun _ _=>rfl)) zad)) zad))))
   (zae (zcZ yb8 rfl (zca (K:=K) rfl (pv 0)) (zbL (K:=K) (n:=2) rfl rfl (zaC ((zal (i:=4) sc_order_from.nd rfl (yaR rfl))) (zaC ((zal (i:=5) sc_order_from.nd rfl (yaR rfl))) zbM))) (zah (ps_if (PW.pt (zg1 (zan op_eq (pv 4) (pe_ix (zaK (K:=K) rfl) (pv 3) zaf (fun _ _=>rfl)) (zaA _)) (zeo (zan (zcF (K:=K) rfl) (pe_ix (zaK (K:=K) rfl) (pv 3) zaf (fun _ _=>rfl)) (zaR (N := ["column"]) (own:=1) (caps := []) rfl (by kernel_rfl) (by kernel_rfl) (zca (K:=K) rfl (zax (sl_tupK (K:=K) rfl) (pv 5) (zaB zaf) zaJ)) (fun _ _ _ _ _=>zal (i:=0) (show List.Nodup (["column"]:List Str) by decide +kernel) rfl (yaR rfl)) (fun _ _ _ _ _=>zaM) (fun _ _ _ _ _=>(pe_ix (zaK (K:=K) rfl) (pv 0) zaf (fun _ _=>rfl)))) (by with_unfolding_all rfl))))) (zah (zao (pv 3))) zau)))
   (zah zci))))),?_⟩
  refine sq1 fun Rz1 qz1 => ?_
  refine (ea rfl ⟨b,_,ea rfl ⟨hb,?_⟩⟩)
  refine qz1 (sq1 fun Rz2 qz2 => ?_)
  refine (ea rfl (ixTc (SqT.of hb) rfl (ea rfl ⟨n1,fun H1 s1 => ?_⟩)))
  refine (ea rfl (ixTc (SqT.of (s1 _ _ hb)) rfl (ea rfl ⟨n2,fun H2 s2=>⟨zac (show 2≤100000 by decide),fun r hr1 => ?_⟩⟩)))
  have S2:Same H H2:=s1.trans s2
  have rf:H r=none:=S2.free hr1
  have S3:Same H (upd H2 r (.tup [.str c.1,.str c.2])):=S2.upd rf
  have hR:upd H2 r (.tup [.str c.1,.str c.2]) r=some (.tup [.str c.1,.str c.2]):=zab
  generalize upd H2 r (.tup [.str c.1,.str c.2])=H3 at S3 hR ⊢
  have sq:∀ {H4:Hp},Same H3 H4→SqT K H4 a (ts.map V.ref):=fun s => .inl (.inr ⟨o,s _ _ (S3 _ _ ha)⟩)
  refine qz2 (sq1 fun Rz3 qz3 => ?_)
  refine ⟨_,rfl,a,rfl,⟨_,sq (Same.refl _)⟩,for_tup (K:=K) (a:=a) (xs:=ts.map V.ref) (fun i σ H4=>i≤k∧∃ v4 v5,σ = [some (.ref a),some (.ref b),some (.ref b),some (.ref r),v4,v5]∧Same H3 H4)
   ⟨ya2 _,none,none,rfl,Same.refl _⟩ (by rintro i σ H4 _ ⟨_,_,_,_,sm⟩;exact sq sm) ?_ ?_⟩
  ·rintro i x σ H4 hx ⟨hik,v4,v5,rfl,sm⟩
   have hi:i < ts.length:=by omega
   have hi':i < tabs.length:=by omega
   rw [yae,yab hi] at hx
   cases hx
   obtain ⟨ca,qs,t1,t2,t3⟩:=((Paired.at hT i hi hi').same S3).same sm
   refine ⟨ts[i],ea rfl ⟨SqT.of t1,rfl,_,ea rfl ⟨_,ea rfl ⟨rfl,?_⟩⟩⟩⟩
   refine (ea rfl (ea rfl (ixTc (SqT.of (sm _ _ hR)) rfl ⟨rfl,ea rfl ?_⟩)))
   by_cases e:i=k
   ·subst e
    refine ite2 (fun _ => ?_) (fun z=>absurd (decide_eq_true (by rw [k1])) z)
    have okt:=hok _ (yam hi')
    have qn:qs.length=tabs[i].2.length:=yaz t3
    obtain ⟨cut,nw⟩:=cut_one (xs:=qs.map V.ref) (by rw [yaa,qn];exact okt.2.1)
    refine (ea rfl (ixTc (SqT.of (sm _ _ hR)) rfl (ea rfl (ea rfl ⟨ca,ea rfl ⟨SqT.of t2,nw,fun p hp=>⟨p,rfl,⟨_,SqT.of zab⟩,fun D hD => ?_⟩⟩⟩))))
    rw [cut] at hD ⊢
    have s5:Same H4 (upd H4 p (.tup ((qs.map V.ref).drop 1))):=Same.new hp
    have hP:upd H4 p (.tup ((qs.map V.ref).drop 1)) p=some (.tup ((qs.map V.ref).drop 1)):=zab
    have t4:=t3.same s5
    have R5:=s5 _ _ (sm _ _ hR)
    have S5:Same H (upd H4 p (.tup ((qs.map V.ref).drop 1))):=(S3.trans sm).trans s5
    generalize upd H4 p (.tup ((qs.map V.ref).drop 1))=H5 at hD hP t4 R5 S5 ⊢
    refine zaz (J:=Itt K p) (qs.length - 1) (fun j τ H6=>∃ (v:Option V),τ = [v]∧Same H5 H6∧H6 D=some (.lst (((((tabs[i].2.drop 1).take j)).map (·.1)).map V.str)))
     ⟨none,rfl,Same.new hD,zab⟩
     (fun j τ H6 hj ⟨_,_,sm,_⟩=>⟨_,.ref (qs[j+1]'(by omega)),SqT.of (sm _ _ hP),by rw [yd0,yae,Nat.add_comm,yab (show j+1 < qs.length by omega)];rfl⟩)
     (by rintro τ H6 ⟨_,_,sm,_⟩;exact ⟨_,SqT.of (sm _ _ hP),by rw [yaX,yaa];exact yag _⟩) ?_ ?_
    ·rintro j τ H6 y H7 hj ⟨v,rfl,sm6,hd6⟩ ⟨rfl,hy⟩
     have ey:=hy _ (SqT.of (sm6 _ _ hP))
     rw [yd0,yae,Nat.add_comm,yab (show j+1 < qs.length by omega)] at ey
     cases ey
     have hj1:j+1 < tabs[i].2.length:=by omega
     have hj2:j < (tabs[i].2.drop 1).length:=by rw [yaX];omega
     refine (ea rfl (ixTc (SqT.of (sm6 _ _ (Paired.at t4 (j+1) (by omega) hj1))) rfl ⟨_,hd6,?_,(ea rfl ⟨sm6.upd hD,?_⟩)⟩))
     ·rw [yaa,yaa,yaj]
      have:=okt.2.2.1
      exact zai (by omega)
     ·rw [zab,yaB hj2,yah,yah,List.getElem_drop]
      simp only [Nat.add_comm 1 j]
      rfl
    ·rintro τ H6 ⟨v,rfl,sm6,hd6⟩
     rw [qn,← yaX,yba] at hd6
     refine ⟨D,ea rfl ⟨.inl (SqL.of hd6),rfl,strs_flat _,ea rfl ?_⟩⟩
     rw [if_neg (by decide),zfQ,decide_eq_true k2]
     exact iteT (ea rfl (q r H6 rf (S5.trans sm6) (sm6 _ _ R5)))
   ·refine ite2 (fun z=>absurd (of_decide_eq_true z) fun y => ?_) (fun _=>iteF ⟨by omega,_,ea rfl sm⟩)
    injection y with y
    have e1:(tabs.map (·.1))[i]'(by simp;omega)=(tabs.map (·.1))[k]'(by simp;omega):=by
     rw [ydf,ydf,k1]
     exact y
    exact e ((ydd (h₀:=by simp;omega) (h₁:=by simp;omega) nd).mp e1)
  ·rintro σ H4 ⟨hik,v4,v5,rfl,sm⟩
   rw [yaa] at hik
   refine qz3 ?_
   exact absurd hik (by omega)
end
def OrdsI (H:Hp) (x:V) (ords:List Col):Prop:=(x = .non∧ords = [])∨∃ (b:Addr) (qs:List Addr),x = .ref b∧Sq H b (qs.map V.ref)∧ColsAt H qs ords
theorem OrdsI.same {H H':Hp} {x:V} {ords:List Col} (h:OrdsI H x ords) (s:Same H H'):OrdsI H' x ords:=h.imp id (by rintro ⟨b,qs,e,q,c⟩;exact ⟨b,qs,e,q.same s,c.same s⟩)
def okOrds (ds:List Tab) (ords:List Col):Prop:=ords.length≤4∧ords.Nodup∧∀ c∈ords,okOrd ds c
def zfi:Sp:=fun vs H Q _=>∃ (a:Addr) (x:V) (o:Obj) (ts:List Addr) (tabs:List Tab) (ords:List Col),vs = [.ref a,x]∧H a=some (.frz o (.tup (ts.map V.ref)))∧TabsT H ts tabs∧zcH tabs∧OrdsI H x ords∧okOrds tabs ords ∧
 ∀ (r:Addr) (rs:List Addr) (H':Hp),H r=none→Same H H'→H' r=some (.tup (rs.map V.ref))→ColsAt H' rs ords→Q (.ref r) H'
section
variable {P:Program} {w:World} {K:PySem.W.Frag} {mg:Str→Option Value} {base:Heap}
theorem zfb (T:Txt K mg):FnOk P w K mg base CX0 5 T.orders_from.f T.orders_from.fd ["tables", "thing"] zfi:=by
 have G_few_of:FnOk P w K mg base CX0 1 T.few_of.f T.few_of.fd _ _:=zeV T
 have G_need_unlike:FnOk P w K mg base CX0 1 T.need_unlike.f T.need_unlike.fd _ _:=zcr T
 have G_order_from:FnOk P w K mg base CX0 4 T.order_from.f T.order_from.fd _ _:=zgl T
 refine T.orders_from.fn.ok sc_orders_from (fun vs H Q E h => ?_) (fun cdv A outer s H vs Q E hr h => ?_)
 ·obtain ⟨a,x,o,ts,tabs,ords,rfl,_⟩:=h
  rfl
 ·obtain ⟨a,x,o,ts,tabs,ords,rfl,ha,hT,hok,hx,⟨l1,nd,ho⟩,q⟩:=h
  refine ⟨_,((zae (ps_if (zc0 (zdl (pv 1))) (zah (zao (zce zad))) zau)
   (zae (zat (i:=2) sc_orders_from.nd rfl (yaR rfl) (zav (zbl (K:=K) rfl) (by rfl) T.b_tuple zbT (zaa (zaR (N := ["part", "tables"]) (own:=1) (caps := [0]) rfl (by kernel_rfl) (by kernel_rfl) (pi_or (zaQ (K:=K) rfl (zam G_few_of (hr.mono (by decide)) rfl (zaa (pv 1) (zaa zaf zad)))) (zca (K:=K) rfl (zam G_few_of (hr.mono (by decide)) rfl (zaa (pv 1) (zaa zaf zad))))) (fun _ _ _ _ _=>zal (i:=0) (show List.Nodup (["part", "tables"]:List Str) by decide +kernel) rfl (yaR rfl)) (fun _ _ _ _ _=>zaM) (fun _ _ _ _ _=>(zam G_order_from (hr.mono (by decide)) rfl (zaa (pv 1) (zaa (pv 0) zad))))) zad)))
   (zae (zbp (zam G_need_unlike (hr.mono (by decide)) rfl (zaa (pv 2) zad)))
   (zah (zao (pv 2))))))),?_⟩
  rcases hx with ⟨rfl,rfl⟩ | ⟨b,qs,rfl,hq,hc⟩
  ·refine sq1 fun Rz1 qz1 => ?_
   refine (ea rfl (ea rfl (iteT ⟨ya2 _,fun r hr1 => ?_⟩)))
   exact q r [] _ hr1 (Same.new hr1) zab .nil
  ·have ql:qs.length=ords.length:=yaz hc
   refine sq1 fun Rz2 qz2 => ?_
   refine (ea rfl (ea rfl (ite2 (fun z=>absurd z (by simp)) (fun _ => ?_))))
   rcases hq with hq | hq
   ·refine qz2 (sq1 fun Rz3 qz3 => ?_)
    refine .inl (ea rfl ⟨b,_,0,rfl,.inl hq,by omega,by rw [yaa];omega,fun H1 s1=>⟨b,rfl,⟨_,SqL.of (s1 _ _ hq)⟩,fun D hD => ?_⟩⟩)
    refine zaz (J:=Itl K b) qs.length (fun j τ H2=>∃ (v:Option V) (rs:List Addr),τ = [v,some (.ref a)]∧Same H1 H2∧H2 D=some (.lst (rs.map V.ref))∧ColsAt H2 rs (ords.take j))
     ⟨none,[],rfl,Same.new hD,zab,.nil⟩
     (fun j τ H2 hj ⟨_,_,_,sm,_⟩=>⟨_,.ref qs[j],SqL.of (sm _ _ (s1 _ _ hq)),by rw [yae,yab hj];rfl⟩)
     (by rintro τ H2 ⟨_,_,_,sm,_⟩;exact ⟨_,SqL.of (sm _ _ (s1 _ _ hq)),by rw [yaa];exact yag _⟩) ?_ ?_
    ·rintro j τ H2 y H3 hj ⟨v,rs,rfl,sm,hd,hcs⟩ ⟨rfl,hy⟩
     have ey:=hy _ (SqL.of (sm _ _ (s1 _ _ hq)))
     rw [yae,yab hj] at ey
     cases ey
     have hj':j < ords.length:=by omega
     have S2:=s1.trans sm
     refine (ea rfl (ea rfl ⟨a,qs[j],o,ts,tabs,ords[j],rfl,S2 _ _ ha,hT.same S2,hok,S2 _ _ (Paired.at hc j hj hj'),ho _ (yam hj'),fun r H' hr1 s' hR => ?_⟩))
     have rl:rs.length=j:=by rw [yaz hcs,yaj];omega
     refine ⟨_,s' _ _ hd,?_,⟨_,rs ++ [r],rfl,(sm.trans s').upd hD,by rw [zab,yah];rfl,?_⟩⟩
     ·rw [yaa];exact zai (by omega)
     ·rw [yaB hj']
      exact Paired.snoc ((hcs.same s').updL (s' _ _ hd)) (by rw [zar (ne_of hR (s' _ _ hd) (fun z=>nomatch z))];exact hR)
    ·rintro τ H2 ⟨v,rs,rfl,sm,hd,hcs⟩
     rw [ql,yba] at hcs
     refine ⟨D,ea rfl (.inl ⟨SqL.of hd,fun t ht => ?_⟩)⟩
     have s3:Same H2 (upd H2 t (.tup (rs.map V.ref))):=Same.new ht
     have hT3:upd H2 t (.tup (rs.map V.ref)) t=some (.tup (rs.map V.ref)):=zab
     have rl:rs.length=ords.length:=yaz hcs
     have hc3:=hcs.same s3
     have tf:H t=none:=(s1.trans sm).free ht
     have S3:Same H (upd H2 t (.tup (rs.map V.ref))):=(s1.trans sm).trans s3
     generalize upd H2 t (.tup (rs.map V.ref))=H3 at s3 hT3 hc3 S3 ⊢
     refine qz3 (sq1 fun Rz4 qz4 => ?_)
     refine (ea rfl (.inr ⟨t,rs,ords,rfl,hT3,hc3,nd,by omega,fun H4 s4 => ?_⟩))
     refine qz4 ?_
     exact (ea rfl (q t rs H4 tf (S3.trans s4) (s4 _ _ hT3) (hc3.same s4)))
   ·refine qz2 (sq1 fun Rz5 qz5 => ?_)
    refine .inr (ea rfl ⟨b,_,0,rfl,.inr hq,by omega,by rw [yaa];omega,fun H1 s1=>⟨b,rfl,⟨_,SqT.of (s1 _ _ hq)⟩,fun D hD => ?_⟩⟩)
    refine zaz (J:=Itt K b) qs.length (fun j τ H2=>∃ (v:Option V) (rs:List Addr),τ = [v,some (.ref a)]∧Same H1 H2∧H2 D=some (.lst (rs.map V.ref))∧ColsAt H2 rs (ords.take j))
     ⟨none,[],rfl,Same.new hD,zab,.nil⟩
     (fun j τ H2 hj ⟨_,_,_,sm,_⟩=>⟨_,.ref qs[j],SqT.of (sm _ _ (s1 _ _ hq)),by rw [yae,yab hj];rfl⟩)
     (by rintro τ H2 ⟨_,_,_,sm,_⟩;exact ⟨_,SqT.of (sm _ _ (s1 _ _ hq)),by rw [yaa];exact yag _⟩) ?_ ?_
    ·rintro j τ H2 y H3 hj ⟨v,rs,rfl,sm,hd,hcs⟩ ⟨rfl,hy⟩
     have ey:=hy _ (SqT.of (sm _ _ (s1 _ _ hq)))
     rw [yae,yab hj] at ey
     cases ey
     have hj':j < ords.length:=by omega
     have S2:=s1.trans sm
     refine (ea rfl (ea rfl ⟨a,qs[j],o,ts,tabs,ords[j],rfl,S2 _ _ ha,hT.same S2,hok,S2 _ _ (Paired.at hc j hj hj'),ho _ (yam hj'),fun r H' hr1 s' hR => ?_⟩))
     have rl:rs.length=j:=by rw [yaz hcs,yaj];omega
     refine ⟨_,s' _ _ hd,?_,⟨_,rs ++ [r],rfl,(sm.trans s').upd hD,by rw [zab,yah];rfl,?_⟩⟩
     ·rw [yaa];exact zai (by omega)
     ·rw [yaB hj']
      exact Paired.snoc ((hcs.same s').updL (s' _ _ hd)) (by rw [zar (ne_of hR (s' _ _ hd) (fun z=>nomatch z))];exact hR)
    ·rintro τ H2 ⟨v,rs,rfl,sm,hd,hcs⟩
     rw [ql,yba] at hcs
     refine ⟨D,ea rfl (.inl ⟨SqL.of hd,fun t ht => ?_⟩)⟩
     have s3:Same H2 (upd H2 t (.tup (rs.map V.ref))):=Same.new ht
     have hT3:upd H2 t (.tup (rs.map V.ref)) t=some (.tup (rs.map V.ref)):=zab
     have rl:rs.length=ords.length:=yaz hcs
     have hc3:=hcs.same s3
     have tf:H t=none:=(s1.trans sm).free ht
     have S3:Same H (upd H2 t (.tup (rs.map V.ref))):=(s1.trans sm).trans s3
     generalize upd H2 t (.tup (rs.map V.ref))=H3 at s3 hT3 hc3 S3 ⊢
     refine qz5 (sq1 fun Rz6 qz6 => ?_)
     refine (ea rfl (.inr ⟨t,rs,ords,rfl,hT3,hc3,nd,by omega,fun H4 s4 => ?_⟩))
     refine qz6 ?_
     exact (ea rfl (q t rs H4 tf (S3.trans s4) (s4 _ _ hT3) (hc3.same s4)))
end
def scF (tt oo dd:Addr):List (Str×V) := [("tables",.ref tt),("orders",.ref oo),("columns",.ref dd)]
def kvsOf (ds:List Tab) (cas:List Addr):List (Key×V):=(ds.zip cas).map fun p=>(.inr p.1.1,.ref p.2)
def TabsC (H:Hp) (ts cas:List Addr) (ds:List Tab):Prop:=Paired (fun (p:Addr×Addr) (d:Tab)=>∃ qs:List Addr,H p.1=some (.tup [.str d.1,.ref p.2])∧H p.2=some (.tup (qs.map V.ref))∧ColsAt H qs d.2) (ts.zip cas) ds∧ts.length=ds.length∧cas.length=ds.length
structure SchemaAt (C:Addr) (H:Hp) (p:Addr) (tabs:List Tab) (ords:List Col):Prop where
 ex:∃ (dx tt oo dd:Addr) (o:Obj) (ts cas rs:List Addr),H p=some (.ins C dx (scF tt oo dd))∧H tt=some (.frz o (.tup (ts.map V.ref)))∧TabsC H ts cas tabs∧H oo=some (.tup (rs.map V.ref))∧ColsAt H rs ords∧H dd=some (.dK (kvsOf tabs cas))
section
variable {P:Program} {w:World} {K:PySem.W.Frag} {mg:Str→Option Value} {base:Heap}
theorem bi_Schema (T:Txt K mg):Binds K T.Schema___init__.fd ["self", "tables", "orders"] []:=by
 obtain ⟨oc,od,kV,doc,pm,an,cdv,ct,osl,efd,lk,hcd⟩:=T.Schema___init__.fn.ex
 rw [efd]
 intro s us hK hl
 rw [ycZ] at hl ⊢
 match us,hl with
 | [x,y,z],_ =>
  refine BindsTo.of_defaults (T:=T.Schema___init__.t) (o:=T.Schema___init__.o) (items := #[.none]) (n:=T.Schema___init__.n) (k := ?k) rfl (hK _ _ T.Schema___init__.lo) T.Schema___init__.da ?h1 ?h2
  case h1=>rfl
  case h2=>rfl
end
structure Kept (H H':Hp):Prop where
 tu:∀ b xs,H b=some (.tup xs)→H' b=some (.tup xs)
 ls:∀ b xs,H b=some (.lst xs)→H' b=some (.lst xs)
 fr:∀ b o u,H b=some (.frz o u)→H' b=some (.frz o u)
 dk:∀ b kvs,H b=some (.dK kvs)→H' b=some (.dK kvs)
theorem Kept.of {H H':Hp} (s:Same H H'):Kept H H':=⟨fun _ _ e=>s _ _ e,fun _ _ e=>s _ _ e,fun _ _ _ e=>s _ _ e,fun _ _ e=>s _ _ e⟩
theorem Kept.trans {H H' H'':Hp} (s:Kept H H') (t:Kept H' H''):Kept H H'':=⟨fun b x e=>t.tu b x (s.tu b x e),fun b x e=>t.ls b x (s.ls b x e),fun b o u e=>t.fr b o u (s.fr b o u e),fun b x e=>t.dk b x (s.dk b x e)⟩
theorem Kept.ins {H:Hp} {p C dx:Addr} {fs:List (Str×V)} {o:HO} (h:H p=some (.ins C dx fs)):Kept H (upd H p o) :=
 ⟨fun b _ e=>(zar (ne_of e h (fun z=>nomatch z))).trans e,fun b _ e=>(zar (ne_of e h (fun z=>nomatch z))).trans e,fun b _ _ e=>(zar (ne_of e h (fun z=>nomatch z))).trans e,fun b _ e=>(zar (ne_of e h (fun z=>nomatch z))).trans e⟩
section
variable {H H':Hp}
theorem ColsAt.kept {qs:List Addr} {cs:List Col} (h:ColsAt H qs cs) (s:Kept H H'):ColsAt H' qs cs:=Paired.mapP h fun _ _ e=>s.tu _ _ e
theorem Sq.kept {a:Addr} {xs:List V} (h:Sq H a xs) (s:Kept H H'):Sq H' a xs:=h.imp (s.ls _ _) (s.tu _ _)
theorem TabT.kept {t:Addr} {d:Tab} (h:TabT H t d) (s:Kept H H'):TabT H' t d:=let ⟨ca,qs,a,b,c⟩:=h;⟨ca,qs,s.tu _ _ a,s.tu _ _ b,c.kept s⟩
theorem TabsT.kept {ts:List Addr} {ds:List Tab} (h:TabsT H ts ds) (s:Kept H H'):TabsT H' ts ds:=Paired.mapP h fun _ _ e=>e.kept s
theorem OrdsI.kept {x:V} {ords:List Col} (h:OrdsI H x ords) (s:Kept H H'):OrdsI H' x ords:=h.imp id (by rintro ⟨b,qs,e,q,c⟩;exact ⟨b,qs,e,q.kept s,c.kept s⟩)
theorem TabsC.kept {ts cas:List Addr} {ds:List Tab} (h:TabsC H ts cas ds) (s:Kept H H'):TabsC H' ts cas ds:=⟨Paired.mapP h.1 (by rintro _ _ ⟨qs,a,b,c⟩;exact ⟨qs,s.tu _ _ a,s.tu _ _ b,c.kept s⟩),h.2⟩
theorem TabsT.cols:∀ {ts:List Addr} {ds:List Tab},TabsT H ts ds→∃ cas,TabsC H ts cas ds
 | _,_,.nil=>⟨[],.nil,rfl,rfl⟩
 | _,_,.cons ⟨ca,qs,a,b,c⟩ t=>by
  obtain ⟨cas,p,l1,l2⟩:=TabsT.cols t
  exact ⟨ca :: cas,.cons ⟨qs,a,b,c⟩ p,by rw [yal,yal,l1],by rw [yal,yal,l2]⟩
theorem kvs_len {ds:List Tab} {cas:List Addr} (h:cas.length=ds.length):(kvsOf ds cas).length=ds.length:=by
 unfold kvsOf
 rw [yaa,ycl,h,Nat.min_self]
theorem zjb:∀ {ds:List Tab} {cas:List Addr},cas.length=ds.length→(kvsOf ds cas).map (·.1)=ds.map fun d=>(.inr d.1:Key)
 | [],[],_=>rfl
 | _ :: _,[],h=>nomatch h
 | [],_ :: _,h=>nomatch h
 | d :: ds,c :: cas,h=>by
  show (ycC d.1:Key) :: (kvsOf ds cas).map (·.1)=_
  rw [zjb (ycH h)]
  rfl
theorem zjK {ds:List Tab} (h:(ds.map (·.1)).Nodup):(ds.map fun d=>(.inr d.1:Key)).Nodup:=by
 induction ds with
 | nil=>exact yfv
 | cons d ds ih =>
  rw [yan,yb5] at h ⊢
  refine ⟨fun z=>h.1 ?_,ih h.2⟩
  obtain ⟨e,he,ee⟩:=yaG.mp z
  injection ee with ee
  exact yaG.mpr ⟨e,he,ee⟩
theorem kvs_at:∀ {ts cas:List Addr} {ds:List Tab},TabsC H ts cas ds→∀ {i:Nat} {q:Addr} {kx:Key×V},ts[i]? = some q→(kvsOf ds cas)[i]? = some kx→H q=some (.tup [kV kx.1,kx.2])
 | [],_,_,_,i,_,_,e,_=>by simp at e
 | _ :: _,[],_ :: _,⟨_,_,l⟩,_,_,_,_,_=>nomatch l
 | _ :: _,_,[],⟨_,l,_⟩,_,_,_,_,_=>nomatch l
 | t :: ts,c :: cas,d :: ds,⟨.cons ⟨qs,a,_,_⟩ p,l1,l2⟩,0,_,_,e1,e2=>by cases e1;cases e2;exact a
 | t :: ts,c :: cas,d :: ds,⟨.cons _ p,l1,l2⟩,i+1,_,_,e1,e2=>kvs_at (ts:=ts) (cas:=cas) (ds:=ds) ⟨p,ycH l1,ycH l2⟩ (i:=i) e1 e2
end
def zdH (C:Addr):Sp:=fun vs H Q _=>∃ (p dx a:Addr) (x:V) (ts:List Addr) (tabs:List Tab) (ords:List Col),vs = [.ref p,.ref a,x]∧H p=some (.ins C dx [])∧Sq H a (ts.map V.ref)∧TabsI H ts tabs∧zcH tabs∧OrdsI H x ords∧okOrds tabs ords ∧
 ∀ H',SchemaAt C H' p tabs ords→(∀ b o,H b=some o→b≠p→H' b=some o)→Q .non H'
section
variable {P:Program} {w:World} {K:PySem.W.Frag} {mg:Str→Option Value} {base:Heap}
theorem zdG (T:Txt K mg):FnOk P w K mg base CX0 7 T.Schema___init__.f T.Schema___init__.fd ["self", "tables", "orders"] (zdH T.C_Schema):=by
 have G_tables_from:FnOk P w K mg base CX0 6 T.tables_from.f T.tables_from.fd _ _:=zfq T
 have G_orders_from:FnOk P w K mg base CX0 5 T.orders_from.f T.orders_from.fd _ _:=zfb T
 refine T.Schema___init__.fn.ok zdS (fun vs H Q E h => ?_) (fun cdv A outer s H vs Q E hr h => ?_)
 ·obtain ⟨p,dx,a,x,ts,tabs,ords,rfl,_⟩:=h
  rfl
 ·obtain ⟨p,dx,a,x,ts,tabs,ords,rfl,hp,hq,hi,hok,hx,hoo,q⟩:=h
  refine ⟨_,((zae (ps_fld (pv 0) (zam G_tables_from (hr.mono (by decide)) rfl (zaa (pv 1) zad)) rfl)
   (zae (ps_fld (pv 0) (zam G_orders_from (hr.mono (by decide)) rfl (zaa (zeZ (K:=K) rfl (pv 0) rfl) (zaa (pv 2) zad))) rfl)
   (zah (ps_fld (pv 0) (zav (zjq rfl) (by rfl) T.b_dict bt_dict (zaa (zeZ (K:=K) rfl (pv 0) rfl) zad)) rfl))))),?_⟩
  refine sq1 fun Rz1 qz1 => ?_
  refine (ea rfl ⟨a,ts,tabs,rfl,hq,hi,hok,fun r o ts' H1 hr1 s1 h1 oc od hT => ?_⟩)
  have hp1:=s1 _ _ hp
  have nr:r≠p:=(za7 hp hr1).symm
  refine (ea rfl ⟨p,T.C_Schema,dx,ea rfl ⟨hp1,T.l_Schema,T.n_Schema_tables,by decide,?_⟩⟩)
  have K1:Kept H1 (upd H1 p (.ins T.C_Schema dx (putF "tables" (.ref r) []))):=Kept.ins hp1
  have hp2:upd H1 p (.ins T.C_Schema dx (putF "tables" (.ref r) [])) p=some (.ins T.C_Schema dx [("tables",.ref r)]):=by rw [zab];rfl
  have O1:∀ b u,H b=some u→b≠p→upd H1 p (.ins T.C_Schema dx (putF "tables" (.ref r) [])) b=some u:=fun b u e n=>(zar n).trans (s1 _ _ e)
  generalize upd H1 p (.ins T.C_Schema dx (putF "tables" (.ref r) []))=H2 at K1 hp2 O1 ⊢
  refine qz1 ?_
  refine (ea rfl ⟨p,T.C_Schema,dx,_,ea rfl ⟨hp2,T.l_Schema,T.n_Schema_tables,by kernel_rfl,ea rfl ⟨r,x,o,ts',tabs,ords,rfl,K1.fr _ _ _ h1,hT.kept K1,hok,(hx.same s1).kept K1,hoo,fun r2 rs H3 hr2 s3 h3 hc3 => ?_⟩⟩⟩)
  have hp3:=s3 _ _ hp2
  refine (ea rfl ⟨p,T.C_Schema,dx,ea rfl ⟨hp3,T.l_Schema,T.n_Schema_orders,(show (1:Nat) < 1000 by decide),?_⟩⟩)
  have K3:Kept H3 (upd H3 p (.ins T.C_Schema dx (putF "orders" (.ref r2) [("tables",.ref r)]))):=Kept.ins hp3
  have hp4:upd H3 p (.ins T.C_Schema dx (putF "orders" (.ref r2) [("tables",.ref r)])) p=some (.ins T.C_Schema dx [("tables",.ref r),("orders",.ref r2)]):=by rw [zab];kernel_rfl
  have O3:∀ b u,H b=some u→b≠p→upd H3 p (.ins T.C_Schema dx (putF "orders" (.ref r2) [("tables",.ref r)])) b=some u:=fun b u e n=>(zar n).trans (s3 _ _ (O1 b u e n))
  have K13:Kept H1 (upd H3 p (.ins T.C_Schema dx (putF "orders" (.ref r2) [("tables",.ref r)]))):=(K1.trans (Kept.of s3)).trans K3
  generalize upd H3 p (.ins T.C_Schema dx (putF "orders" (.ref r2) [("tables",.ref r)]))=H4 at K3 hp4 O3 K13 ⊢
  obtain ⟨cas,hC⟩:=(hT.kept K13).cols
  refine (ea rfl ⟨p,T.C_Schema,dx,_,ea rfl ⟨hp4,T.l_Schema,T.n_Schema_tables,by kernel_rfl,r,o,ts',kvsOf tabs cas,rfl,K13.fr _ _ _ h1,oc,od,?_,?_,?_,fun i q kx e1 e2=>kvs_at hC e1 e2,fun d hd => ?_⟩⟩)
  ·rw [kvs_len hC.2.2,hC.2.1]
  ·rw [hC.2.1]
   have:=hok.2.1
   omega
  ·rw [zjb hC.2.2]
   exact zjK hok.2.2.2
  ·have s5:Same H4 (upd H4 d (.dK (kvsOf tabs cas))):=Same.new hd
   have hp5:=s5 _ _ hp4
   refine (ea rfl ⟨p,T.C_Schema,dx,ea rfl ⟨hp5,T.l_Schema,T.n_Schema_columns,(show (2:Nat) < 1000 by decide),?_⟩⟩)
   have K5:Kept (upd H4 d (.dK (kvsOf tabs cas))) (upd (upd H4 d (.dK (kvsOf tabs cas))) p (.ins T.C_Schema dx (putF "columns" (.ref d) [("tables",.ref r),("orders",.ref r2)]))):=Kept.ins hp5
   have K45:=(Kept.of s5).trans K5
   refine q _ ⟨dx,r,r2,d,o,ts',cas,rs,?_,(K13.trans K45).fr _ _ _ h1,hC.kept K45,(K3.trans K45).tu _ _ h3,hc3.kept (K3.trans K45),K5.dk _ _ zab⟩ fun b u e n=>(zar n).trans (s5 _ _ (O3 b u e n))
   rw [zab]
   kernel_rfl
end
theorem kvs_val:∀ {ds:List Tab} {cas:List Addr},(ds.map (·.1)).Nodup→∀ (hl:cas.length=ds.length) (k:Nat) (hk:k < ds.length),valV (kvsOf ds cas) (.inr ds[k].1:Key)=some (.ref (cas[k]'(by omega)))
 | [],_,_,_,_,hk=>absurd hk (ycj _)
 | _ :: _,[],_,h,_,_=>nomatch h
 | d :: ds,c :: cas,nd,hl,0,_=>zdK rfl
 | d :: ds,c :: cas,nd,hl,k+1,hk=>by
  rw [yan,yb5] at nd
  have hk':k < ds.length:=ycN hk
  show valV ((ycC d.1,V.ref c) :: kvsOf ds cas) (.inr ds[k].1)=_
  rw [zdz ?_,kvs_val nd.2 (ycH hl) k hk']
  ·rfl
  ·intro z
   injection z with z
   exact nd.1 (yaG.mpr ⟨ds[k],yam hk',z.symm⟩)
theorem TabsC.at:∀ {H:Hp} {ts cas:List Addr} {ds:List Tab},TabsC H ts cas ds→∀ (k:Nat) (h1:k < ts.length) (h2:k < cas.length) (h3:k < ds.length),∃ qs:List Addr,H ts[k]=some (.tup [.str ds[k].1,.ref cas[k]])∧H cas[k]=some (.tup (qs.map V.ref))∧ColsAt H qs ds[k].2:=fun {H ts cas ds} h k h1 h2 h3=>by
 have:=Paired.at h.1 k (by rw [ycl];omega) h3
 rw [ydO] at this
 exact this
theorem SchemaAt.kept {C:Addr} {H H':Hp} {p:Addr} {tabs:List Tab} {ords:List Col} (h:SchemaAt C H p tabs ords) (s:Same H H'):SchemaAt C H' p tabs ords:=by
 obtain ⟨dx,tt,oo,dd,o,ts,cas,rs,a,b,c,d,e,f⟩:=h
 exact ⟨dx,tt,oo,dd,o,ts,cas,rs,s _ _ a,s _ _ b,c.kept (Kept.of s),s _ _ d,e.same s,s _ _ f⟩
def zc6 (C:Addr):Sp:=fun vs H Q _=>∃ (p:Addr) (tabs:List Tab) (ords:List Col),vs = [.ref p]∧SchemaAt C H p tabs ords∧zcH tabs∧∀ (l:Addr) (H':Hp),H l=none→Same H H'→H' l=some (.lst ((tabs.map (·.1)).map V.str))→Q (.ref l) H'
def zdi (C:Addr):Sp:=fun vs H Q _=>∃ (p:Addr) (tabs:List Tab) (ords:List Col) (k:Nat) (hk:k < tabs.length),vs = [.ref p,.str tabs[k].1]∧SchemaAt C H p tabs ords∧zcH tabs ∧
 ∀ (l:Addr) (qs:List Addr) (H':Hp),H l=none→Same H H'→H' l=some (.lst (qs.map V.ref))→ColsAt H' qs tabs[k].2→Q (.ref l) H'
theorem scF_t (tt oo dd:Addr):(scF tt oo dd).lookup ("tables" : Str)=some (.ref tt):=by kernel_rfl
theorem scF_c (tt oo dd:Addr):(scF tt oo dd).lookup ("columns" : Str)=some (.ref dd):=by kernel_rfl
section
variable {P:Program} {w:World} {K:PySem.W.Frag} {mg:Str→Option Value} {base:Heap}
theorem zc4 (T:Txt K mg):FnOk P w K mg base CX0 1 T.Schema_table_names.f T.Schema_table_names.fd ["self"] (zc6 T.C_Schema):=by
 refine T.Schema_table_names.fn.ok zcV (fun vs H Q E h => ?_) (fun cdv A outer s H vs Q E hr h => ?_)
 ·obtain ⟨p,tabs,ords,rfl,_⟩:=h
  rfl
 ·obtain ⟨p,tabs,ords,rfl,hS,hok,q⟩:=h
  obtain ⟨dx,tt,oo,dd,o,ts,cas,rs,hp,ht,hC,_⟩:=hS
  refine ⟨_,((zah (zao (zaR (N := ["table"]) (own:=1) (caps := []) rfl (by kernel_rfl) (by kernel_rfl) (zca (K:=K) rfl (zeZ (K:=K) rfl (pv 0) rfl)) (fun _ _ _ _ _=>zal (i:=0) (show List.Nodup (["table"]:List Str) by decide +kernel) rfl (yaR rfl)) (fun _ _ _ _ _=>zaM) (fun _ _ _ _ _=>(pe_ix (zaK (K:=K) rfl) (pv 0) zaf (fun _ _=>rfl))))))),?_⟩
  have sq:∀ {H4:Hp},Same H H4→SqT K H4 tt (ts.map V.ref):=fun s => .inl (.inr ⟨o,s _ _ ht⟩)
  refine (ea rfl ⟨p,T.C_Schema,dx,_,ea rfl ⟨hp,T.l_Schema,T.n_Schema_tables,scF_t ..,tt,rfl,⟨_,sq (Same.refl _)⟩,fun D hD => ?_⟩⟩)
  refine zaz (J:=Itt K tt) ts.length (fun j τ H4=>∃ (v:Option V),τ = [v]∧Same H H4∧H4 D=some (.lst ((((tabs.take j).map (·.1))).map V.str)))
   ⟨none,rfl,Same.new hD,zab⟩
   (fun j τ H4 hj ⟨_,_,sm,_⟩=>⟨_,.ref ts[j],sq sm,by rw [yae,yab hj];rfl⟩)
   (by rintro τ H4 ⟨_,_,sm,_⟩;exact ⟨_,sq sm,by rw [yaa];exact yag _⟩) ?_ ?_
  ·rintro j τ H4 y H5 hj ⟨v,rfl,sm4,hd4⟩ ⟨rfl,hy⟩
   have ey:=hy _ (sq sm4)
   rw [yae,yab hj] at ey
   cases ey
   have hj':j < tabs.length:=by rw [← hC.2.1];exact hj
   obtain ⟨qs,t1,_,_⟩:=hC.at j hj (by rw [hC.2.2];exact hj') hj'
   refine (ea rfl (ixTc (SqT.of (sm4 _ _ t1)) rfl ⟨_,hd4,?_,(ea rfl ⟨sm4.upd hD,?_⟩)⟩))
   ·rw [yaa,yaa,yaj]
    have:=hok.2.1
    exact zai (by omega)
   ·rw [zab,yaB hj',yah,yah]
    rfl
  ·rintro τ H4 ⟨v,rfl,sm4,hd4⟩
   rw [hC.2.1,yba] at hd4
   exact q D H4 hD sm4 hd4
theorem zdh (T:Txt K mg):FnOk P w K mg base CX0 3 T.Schema_columns_of.f T.Schema_columns_of.fd ["self", "table"] (zdi T.C_Schema):=by
 have G_is_name:FnOk P w K mg base CX0 2 T.is_name.f T.is_name.fd _ _:=zd0 T
 refine T.Schema_columns_of.fn.ok zdj (fun vs H Q E h => ?_) (fun cdv A outer s H vs Q E hr h => ?_)
 ·obtain ⟨p,tabs,ords,k,hk,rfl,_⟩:=h
  rfl
 ·obtain ⟨p,tabs,ords,k,hk,rfl,hS,hok,q⟩:=h
  have hu1:=hu_of hr
  have hn:=(hok.2.2.1 _ (yam hk)).1
  refine ⟨_,((zae (ps_if (PW.pt (pw_or (zbF (zbz (zam G_is_name (hr.mono (by decide)) rfl (zaa (pv 1) zad)))) (zbn (zc0 (pc_dnotin hu1 (pv 1) (zeZ (K:=K) rfl (pv 0) rfl)))))) (zah zci) zau)
   (zah (zao (zav (zcP (K:=K) rfl) (by rfl) T.b_list ze1 (zaa (pe_dget hu1 (zeZ (K:=K) rfl (pv 0) rfl) (pv 1) (fun _ _=>rfl)) zad)))))),?_⟩
  refine sq1 fun Rz1 qz1 => ?_
  refine (ea rfl (ea rfl ⟨Thing.str (nm_len hn),fun H1 s1=>(ea rfl (ite2 (fun z=>absurd z (by simp [zez,hn])) (fun _ => ?_)))⟩))
  obtain ⟨dx,tt,oo,dd,o,ts,cas,rs,hp,ht,hC,_,_,hd⟩:=hS.kept s1
  have val:=kvs_val hok.2.2.2 hC.2.2 k hk
  have get:DGet H1 dd (.str tabs[k].1) (some (.ref (cas[k]'(by rw [hC.2.2];exact hk)))):=val ▸ DGet.k (k:=ycC tabs[k].1) hd
  obtain ⟨qs,_,t2,t3⟩:=hC.at k (by rw [hC.2.1];exact hk) (by rw [hC.2.2];exact hk) hk
  refine (ea rfl (ea rfl ⟨p,T.C_Schema,dx,_,ea rfl ⟨hp,T.l_Schema,T.n_Schema_columns,scF_c ..,dd,ea rfl ⟨get,ea rfl (iteF ?_)⟩⟩⟩))
  refine qz1 ?_
  refine (ea rfl ⟨p,T.C_Schema,dx,_,ea rfl ⟨hp,T.l_Schema,T.n_Schema_columns,scF_c ..,ea rfl ⟨dd,ea rfl ⟨get,?_⟩⟩⟩⟩)
  refine ⟨_,ea rfl ⟨.inr (SqT.of t2),fun l hl => ?_⟩⟩
  exact q l qs _ (s1.free hl) (s1.upd (s1.free hl)) zab (t3.same (Same.new hl))
end
def digs (n:Nat):List Nat:=(Nat.toDigits 10 n).map Char.toNat
theorem val_back (m:Nat):yaY (digs m)=m:=PySem.W.KIN.val_back m
def isDig (c:Nat):Bool:=decide (48≤c)&&decide (c≤57)
def neg (cs:List Nat):Bool:=cs.head? == some 45
def figs (cs:List Nat):List Nat:=if neg cs=true then cs.drop 1 else cs
def zaL (i:Int):List Nat:=if i < 0 then 45 :: digs i.natAbs else digs i.natAbs
def sgn (cs:List Nat) (v:Nat):Int:=if neg cs=true then -(v:Int) else v
def numIn (cs:List Nat):Option Int :=
 if (1≤(figs cs).length∧(figs cs).length≤10)∧(figs cs).all isDig=true then
  if zaL (sgn cs (yaY (figs cs)))=cs ∧ -1000000000≤sgn cs (yaY (figs cs))∧sgn cs (yaY (figs cs))≤1000000000 then some (sgn cs (yaY (figs cs))) else none
 else none
def plain (cs:List Nat):Option Int :=
 if figs cs ≠ []∧(figs cs).all isDig=true then
  if (figs cs).length≤12∧figs cs=digs (yaY (figs cs))∧cs ≠ [45,48] then
   if -1000000000≤sgn cs (yaY (figs cs))∧sgn cs (yaY (figs cs))≤1000000000 then some (sgn cs (yaY (figs cs))) else none
  else none
 else none
theorem zh0 (n:Nat):digs n ≠ []:=by
 unfold digs
 intro h
 have h:=List.map_eq_nil_iff.mp h
 exact Nat.toDigits_ne_nil h
theorem zdv {n:Nat} (h:n≤1000000000):(digs n).length≤10:=by
 unfold digs
 rw [yaa]
 exact (Nat.length_toDigits_le_iff (by decide) (by decide)).mpr (by omega)
theorem zei (n:Nat):(digs n).all isDig=true:=by
 rw [yaP]
 intro c hc
 unfold digs at hc
 obtain ⟨ch,hch,rfl⟩:=yaG.mp hc
 have h:=ye3 (by decide) (by decide) hch
 have r:=PyProof.Rows.digit_range h
 unfold isDig
 simp only [yaL,decide_eq_true_eq]
 exact r
theorem zbB:digs 0 = [48]:=by decide
theorem zex (n:Nat):neg (digs n)=false:=by
 have key:∀ c∈digs n,c≠45:=by
  intro c hc
  unfold digs at hc
  obtain ⟨ch,hch,rfl⟩:=yaG.mp hc
  have:=ye3 (by decide) (by decide) hch
  intro e
  have:ch = '-':=Char.ext (UInt32.toNat_inj.mp e)
  subst this
  revert this
  simp [Char.isDigit]
 unfold neg
 cases h:digs n with
 | nil=>exact absurd h (zh0 n)
 | cons c r =>
  have:=key c (by rw [h];exact yat ..)
  simpa using this
theorem zbq (n:Nat) (h:0 < n):zaL (-(n:Int))=45 :: digs n:=by
 unfold zaL
 rw [if_pos (by omega),Int.natAbs_neg,yfm]
theorem zbw (n:Nat):zaL (n:Int)=digs n:=by
 unfold zaL
 rw [if_neg (by omega),yfm]
theorem zhN (cs:List Nat):numIn cs=plain cs:=by
 unfold numIn plain
 by_cases hd:(figs cs).all isDig=true
 ·by_cases hn:neg cs=true
  ·
   have ecs:cs=45 :: figs cs:=by
    unfold figs
    rw [if_pos hn]
    unfold neg at hn
    cases cs with
    | nil=>cases hn
    | cons c r =>
     have:c=45:=by simpa using hn
     subst this;rfl
   have esg:∀ v,sgn cs v = -(v:Int):=fun v=>by unfold sgn;rw [if_pos hn]
   simp only [hd,and_true,esg]
   generalize figs cs=f at *
   subst ecs
   by_cases hf:f = []
   ·subst hf;simp
   ·have hl:1≤f.length:=by cases f with | nil=>exact absurd rfl hf | cons=>simp
    rw [if_pos hf]
    by_cases hv:f=digs (yaY f)
    ·by_cases h0:yaY f=0
     ·
      have e0:f = [48]:=by rw [h0,zbB] at hv;exact hv
      subst e0
      simp [yaY,zaL,zbB]
     ·have hne:¬ (45 :: f = [45,48]):=by
       intro e
       have:f = [48]:=by simpa using e
       rw [this] at h0
       exact h0 rfl
      by_cases hb : -1000000000 ≤ -(yaY f:Int) ∧ -(yaY f:Int)≤1000000000
      ·have hl10:f.length≤10:=by rw [hv];exact zdv (by omega)
       rw [if_pos ⟨hl,hl10⟩,zbq _ (by omega),if_pos ⟨by rw [← hv],hb⟩,if_pos ⟨by omega,hv,hne⟩,if_pos hb]
      ·simp only [hb,and_false,if_false]
       split <;> split <;> rfl
    ·have hnc:¬ zaL (-(yaY f:Int))=45 :: f:=by
      intro e
      by_cases h0:yaY f=0
      ·rw [h0] at e
       exact absurd e (by simp [zaL,zbB])
      ·rw [zbq _ (by omega)] at e
       exact hv (ybY e).2.symm
     simp only [hnc,hv,false_and,and_false,if_false]
     split <;> rfl
  ·have ecs:figs cs=cs:=by unfold figs;rw [if_neg hn]
   have esg:∀ v,sgn cs v=(v:Int):=fun v=>by unfold sgn;rw [if_neg hn]
   rw [ecs] at hd
   simp only [ecs,hd,and_true,esg,zbw]
   by_cases hf:cs = []
   ·subst hf;simp
   ·have hl:1≤cs.length:=by cases cs with | nil=>exact absurd rfl hf | cons=>simp
    rw [if_pos hf]
    have hne:¬ cs = [45,48]:=by
     intro e
     rw [e] at hn
     exact hn (by decide)
    by_cases hv:cs=digs (yaY cs)
    ·by_cases hb : -1000000000≤(yaY cs:Int)∧(yaY cs:Int)≤1000000000
     ·have hl10:cs.length≤10:=by rw [hv];exact zdv (by omega)
      rw [if_pos ⟨hl,hl10⟩,if_pos ⟨hv.symm,hb⟩,if_pos ⟨by omega,hv,hne⟩,if_pos hb]
     ·simp only [hb,and_false,if_false]
      split <;> split <;> rfl
    ·have hnv:¬ digs (yaY cs)=cs:=fun e=>hv e.symm
     simp only [hnv,hv,false_and,and_false,if_false]
     split <;> rfl
 ·simp only [hd,and_false,if_false,ya0]
theorem zeD (c:Nat):decide (c∈("0123456789" : Str).cps.toList)=isDig c:=by
 have e:("0123456789" : Str).cps.toList=List.range' 48 10:=by decide +kernel
 rw [e,yb3]
 unfold isDig
 simp only [decide_eq_true_eq,yaL,List.mem_range'_1]
 omega
def zfY:Sp:=fun vs H Q _=>∃ v,vs = [v]∧((∃ i:Int,v = .int i∧i.natAbs < 1000000000000)∨∃ z,v = .str z)∧Q (.str (strV v)) H
def zgS:Sp:=fun vs H Q _=>∃ x,vs = [.str x]∧x.length≤10000∧∀ H',Same H H'→Q (optV (numIn x.cps.toList)) H'
def zh5:Sp:=fun vs H Q _=>∃ k x,vs = [.str k,.str x]∧(k = "number"∨k = "word")∧x.length≤10000∧∀ H',Same H H'→Q (if k = "number" then optV (numIn x.cps.toList) else wordV x) H'
section
variable {P:Program} {w:World} {K:PySem.W.Frag} {mg:Str→Option Value} {base:Heap}
theorem zcB {n:Nat} (h:n < 1000000000000):n.log2 < 1920:=by
 by_cases h0:n=0
 ·subst h0;decide +kernel
 ·exact yaT ((Nat.log2_lt h0).mpr (yaT h (by decide:1000000000000≤2 ^ 40))) (by decide)
theorem zdA (T:Txt K mg):FnOk P w K mg base CX0 1 T.value_text.f T.value_text.fd ["value"] zfY:=by
 refine T.value_text.fn.ok zf1 (fun vs H Q E h => ?_) (fun cdv A outer s H vs Q E hr h => ?_)
 ·obtain ⟨v,rfl,_⟩:=h
  rfl
 ·obtain ⟨v,rfl,hv,k⟩:=h
  refine ⟨_,((zah (zao (zav zc3 (by rfl) T.b_str zdk (zaa (pv 0) zad))))),?_⟩
  refine (ea rfl (ea rfl ⟨?_,k⟩))
  rcases hv with ⟨i,rfl,hi⟩ | ⟨z,rfl⟩
  ·exact .inl ⟨i,rfl,zcB hi⟩
  ·exact .inr ⟨z,rfl⟩
end
theorem zcp {x y:Str} (h:x.cps.toList=y.cps.toList):x=y:=by
 cases x;cases y
 exact congrArg Str.mk (Array.ext' h)
theorem zcz (x:Str):Txt.startswith x "-" = neg x.cps.toList:=by
 have e:("-" : Str) = ⟨#[45]⟩:=by decide +kernel
 rw [e,yb3]
 unfold Txt.startswith neg
 rw [yaL,decide_eq_true_eq,StrLaws.subAt_one x 45 0,List.head?_eq_getElem?,beq_iff_eq]
theorem zdT {cs:List Nat} (h:neg cs=true):cs=45 :: cs.drop 1:=by
 unfold neg at h
 cases cs with
 | nil=>cases h
 | cons c r =>
  have:c=45:=by simpa using h
  subst this;rfl
theorem zgP {x:Str} (h:1≤x.length):(ya3 x (some 1) none).cps.toList=x.cps.toList.drop 1:=by
 have e:ya3 x (some 1) none=ydy x (some 1) none:=rfl
 have hl:=zcf x
 rw [e,StrLaws.sliceText_from ⟨by decide,by omega⟩]
 show ((x.cps.toList.drop 1).take _)=_
 rw [yaA]
 rw [yaX]
 omega
theorem zbC (n:Int):(strV (.int n)).cps.toList=zaL n:=by
 show (ycf (toString n)).cps.toList=zaL n
 unfold zaL
 cases n with
 | ofNat m =>
  rw [if_neg (by simp)]
  exact PySem.W.KIN.signs_num m
 | negSucc m =>
  rw [if_pos (by omega),ye4]
  have e:toString (Int.negSucc m) = "-" ++ toString (m+1):=rfl
  rw [e,String.toList_append,yah]
  show [45]++_=45 :: digs (m+1)
  have:=PySem.W.KIN.signs_num (m+1)
  rw [ye4] at this
  rw [List.singleton_append]
  exact congrArg (ycT 45) this
theorem zil {f:List Nat} (h:f.all isDig=true):PySem.NumText.AllDigits f:=fun c hc=>by
 have:=yaP.mp h c hc
 unfold isDig at this
 simpa using this
theorem int_text (x:Str) (h:(figs x.cps.toList).all isDig=true) (h1:figs x.cps.toList ≠ []) (hl:x.length≤4300):PySem.intText? x=some (sgn x.cps.toList (yaY (figs x.cps.toList))):=by
 by_cases hn:neg x.cps.toList=true
 ·have ef:figs x.cps.toList=x.cps.toList.drop 1:=if_pos hn
  rw [ef] at h h1 ⊢
  rw [PySem.intText_neg (zdT hn) (zil h) h1 hl]
  unfold sgn
  rw [if_pos hn]
 ·have ef:figs x.cps.toList=x.cps.toList:=if_neg hn
  rw [ef] at h h1 ⊢
  rw [PySem.intText_digits (zil h) h1 hl]
  unfold sgn
  rw [if_neg hn]
theorem int_figs {f:Str} (h:f.cps.toList.all isDig=true) (h1:f.cps.toList ≠ []) (hl:f.length≤4300):PySem.intText? f=some ((yaY f.cps.toList:Nat):Int) :=
 PySem.intText_digits (zil h) h1 hl
theorem val_lt:∀ {f:List Nat},f.all isDig=true→yaY f < 10 ^ f.length:=by
 have key:∀ (f:List Nat) (acc:Nat),f.all isDig=true→f.foldl (fun acc c=>acc*10+(c - 48)) acc < (acc+1)*10 ^ f.length:=by
  intro f
  induction f with
  | nil=>intro acc _;simp
  | cons c r ih =>
   intro acc h
   rw [yeI,yaL] at h
   have hc:=h.1
   unfold isDig at hc
   simp only [yaL,decide_eq_true_eq] at hc
   rw [List.foldl_cons]
   refine yaT (ih _ h.2) ?_
   rw [yal,Nat.pow_succ,Nat.mul_comm (10 ^ r.length) 10,← Nat.mul_assoc]
   exact Nat.mul_le_mul_right _ (by omega)
 intro f h
 have:=key f 0 h
 simpa [yaY] using this
theorem figs_len (cs:List Nat):cs.length≤(figs cs).length+1:=by
 by_cases hn:neg cs=true
 ·have e:figs cs=cs.drop 1:=if_pos hn
  rw [e,yaX];omega
 ·have e:figs cs=cs:=if_neg hn
  rw [e];omega
theorem sgn_abs (cs:List Nat) (v:Nat):(sgn cs v).natAbs=v:=by
 unfold sgn
 split <;> simp
section
variable {P:Program} {w:World} {K:PySem.W.Frag} {mg:Str→Option Value} {base:Heap}
theorem zgF (T:Txt K mg):FnOk P w K mg base CX0 4 T.number_in.f T.number_in.fd ["text"] zgS:=by
 have G_has_only:FnOk P w K mg base CX0 1 T.has_only.f T.has_only.fd _ _:=zeB T
 have G_is_value:FnOk P w K mg base CX0 3 T.is_value.f T.is_value.fd _ _:=zeJ T
 have G_value_text:FnOk P w K mg base CX0 1 T.value_text.f T.value_text.fd _ _:=zdA T
 refine T.number_in.fn.ok sc_number_in (fun vs H Q E h => ?_) (fun cdv A outer s H vs Q E hr h => ?_)
 ·obtain ⟨x,rfl,_⟩:=h
  rfl
 ·obtain ⟨x,rfl,hx,k⟩:=h
  refine ⟨_,((zae (zat (i:=1) sc_number_in.nd rfl (yaR rfl) (zcQ (zbz (zaY (K:=K) rfl yaQ ydo ydp zcK (pv 0) (zaa zay zad))) (zax zcg (pv 0) (zaB zaf) zaJ) (pv 0)))
   (zae (ps_if (PW.pt (pw_or (zbF (zgo op_le op_le zaf (zak za8 (by rfl) T.b_len za0 (zaa (pv 1) zad)) (zbJ rfl T.c_MOST_FIGURES (T.r_MOST_FIGURES)))) (zbn (zbF (zbz (zam G_has_only (hr.mono (by decide)) rfl (zaa (zbJ rfl T.c_FIGURES (T.r_FIGURES)) (zaa (pv 1) zad)))))))) (zah (zao zaZ)) zau)
   (zae (zat (i:=2) sc_number_in.nd rfl (yaR rfl) (zav zb2 (by rfl) T.b_int zdO (zaa (pv 0) zad)))
   (zae (ps_if (PW.pt (pw_or (zan op_ne (zam G_value_text (hr.mono (by decide)) rfl (zaa (pv 2) zad)) (pv 0) (zaA _)) (zbn (zbF (zbz (zam G_is_value (hr.mono (by decide)) rfl (zaa zay (zaa (pv 2) zad)))))))) (zah (zao zaZ)) zau)
   (zah (zao (pv 2)))))))),?_⟩
  have hlen:=zcf x
  have knone:numIn x.cps.toList=none→∀ H',Same H H'→Q .non H':=fun e H' s'=>by
   have:=k H' s'
   rw [e] at this
   exact this
  have hf1:neg x.cps.toList=true→(ya3 x (some 1) none).cps.toList=figs x.cps.toList:=fun h1=>by
   have e:=zdT h1
   have:1≤x.length:=by rw [← hlen,e];simp
   rw [zgP this]
   exact (if_pos h1).symm
  have hf2:¬ neg x.cps.toList=true→x.cps.toList=figs x.cps.toList:=fun h1=>(if_neg h1).symm
  have hs1:neg x.cps.toList=true→(ya3 x (some 1) none).length≤10000:=fun _=>ya1 (ycF x _ _) hx
  have hs2:¬ neg x.cps.toList=true→x.length≤10000:=fun _=>hx
  refine sq1 fun Rz1 qz1 => ?_
  refine (ea rfl ⟨rfl,_,ea rfl ⟨rfl,ea rfl ?_⟩⟩)
  rw [zcz]
  refine ite2 (fun h1=>(ea rfl (ea rfl (ea rfl ⟨zac (by omega),?_⟩)))) (fun h1=>(ea rfl ?_))
  all_goals first | have hf:=hf1 h1 | have hf:=hf2 h1
  all_goals first | have hs:=hs1 h1 | have hs:=hs2 h1
  all_goals
   have el:=congrArg ycL hf
   rw [zcf] at el
   refine qz1 (sq1 fun Rz2 qz2 => ?_)
   refine (ea rfl (ea rfl ⟨zac (by omega),_,ea rfl ⟨rfl,ea rfl ?_⟩⟩))
   refine ite2 (fun a1 => ?_) (fun a1 => ?_)
   ·have a1:=of_decide_eq_true a1
    refine ⟨_,ea rfl ⟨rfl,ea rfl ?_⟩⟩
    refine ite2 (fun a2 => ?_) (fun a2 => ?_)
    ·refine iteT (knone ?_ H (Same.refl H))
     simp only [ycs,decide_eq_false_iff_not] at a2
     unfold numIn
     rw [if_neg]
     rintro ⟨⟨_,z⟩,_⟩
     omega
    ·simp only [ycs,decide_eq_false_iff_not,yej] at a2
     refine (ea rfl ⟨_,ea rfl ⟨hs,fun H1 s1=>(ea rfl ?_)⟩⟩)
     rw [hf,show (fun c=>decide (c∈("0123456789" : Str).cps.toList))=isDig from funext zeD]
     refine ite2 (fun a3 => ?_) (fun a3 => ?_)
     ·refine knone ?_ H1 s1
      unfold numIn
      rw [if_neg]
      rintro ⟨_,z⟩
      rw [z] at a3
      cases a3
     ·have hd:(figs x.cps.toList).all isDig=true:=by
       cases e:(figs x.cps.toList).all isDig with
       | true=>rfl
       | false=>rw [e] at a3;exact absurd rfl a3
      have hne:figs x.cps.toList ≠ []:=fun e=>by rw [e] at el;simp at el;omega
      have hl:1≤(figs x.cps.toList).length∧(figs x.cps.toList).length≤10:=by omega
      have hv:=val_lt hd
      have hv2:yaY (figs x.cps.toList) < 1000000000000:=yaT hv (ya1 (Nat.pow_le_pow_right (by decide) hl.2) (by decide))
      have hxl:x.length≤640:=by
       have:=figs_len x.cps.toList
       omega
      refine qz2 (sq1 fun Rz3 qz3 => ?_)
      refine (ea rfl ⟨_,ea rfl ⟨hxl,int_text x hd hne (by omega),?_⟩⟩)
      refine qz3 (sq1 fun Rz4 qz4 => ?_)
      refine (ea rfl (ea rfl ⟨.inl (ea rfl (by rw [sgn_abs];exact hv2)),ea rfl ⟨rfl,ea rfl ?_⟩⟩))
      refine ite2 (fun a4 => ?_) (fun a4 => ?_)
      ·refine iteT (knone ?_ H1 s1)
       simp only [ycs,decide_eq_false_iff_not] at a4
       unfold numIn
       rw [if_pos ⟨hl,hd⟩,if_neg]
       rintro ⟨z,_⟩
       exact a4 (congrArg V.str (zcp (by rw [zbC];exact z)))
      ·simp only [ycs,decide_eq_false_iff_not,yej] at a4
       have ec:zaL (sgn x.cps.toList (yaY (figs x.cps.toList)))=x.cps.toList:=by
        have:=V.str.inj a4
        rw [← zbC,this]
       refine (ea rfl ⟨_,ea rfl ⟨.inl rfl,Thing.int _,fun H2 s2=>(ea rfl ?_)⟩⟩)
       rw [zbr]
       refine ite2 (fun a5 => ?_) (fun a5 => ?_)
       ·refine knone ?_ H2 (s1.trans s2)
        unfold numIn
        rw [if_pos ⟨hl,hd⟩,if_neg]
        rintro ⟨_,z1,z2⟩
        simp [isNum,z1,z2] at a5
       ·refine qz4 ?_
        refine (ea rfl (qv_of (k H2 (s1.trans s2)) ?_))
        unfold numIn
        rw [if_pos ⟨hl,hd⟩,if_pos]
        ·rfl
        ·refine ⟨ec,?_⟩
         simpa [isNum] using a5
   ·refine (ea rfl (iteT (iteT (knone ?_ H (Same.refl H)))))
    have a1:¬ _:=fun z=>a1 (decide_eq_true z)
    unfold numIn
    rw [if_neg]
    rintro ⟨⟨z,_⟩,_⟩
    omega
theorem ze8 (T:Txt K mg):FnOk P w K mg base CX0 5 T.value_in.f T.value_in.fd ["kind", "text"] zh5:=by
 have G_is_value:FnOk P w K mg base CX0 3 T.is_value.f T.is_value.fd _ _:=zeJ T
 have G_number_in:FnOk P w K mg base CX0 4 T.number_in.f T.number_in.fd _ _:=zgF T
 refine T.value_in.fn.ok zik (fun vs H Q E h => ?_) (fun cdv A outer s H vs Q E hr h => ?_)
 ·obtain ⟨kd,x,rfl,_⟩:=h
  rfl
 ·obtain ⟨kd,x,rfl,hk,hx,k⟩:=h
  refine ⟨_,((zae (ps_if (zbF (zbz (zak (za3 (K:=K) rfl) (by rfl) T.b_isinstance zaE (zaa (pv 1) (zaa (zbH (v := .ty "str") rfl T.b_str zdk rfl) zad))))) (zah (zao zaZ)) zau)
   (zae (ps_if (zan op_eq (pv 0) zay (zaA _)) (zah (zao (zam G_number_in (hr.mono (by decide)) rfl (zaa (pv 1) zad)))) zau)
   (zah (zao (zcQ (zbz (zam G_is_value (hr.mono (by decide)) rfl (zaa (pv 0) (zaa (pv 1) zad)))) (pv 1) zaZ)))))),?_⟩
  refine sq1 fun Rz5 qz5 => ?_
  refine (ea rfl ⟨_,_,_,ea rfl ⟨.str x,zbR,ea rfl (iteF ?_)⟩⟩)
  refine qz5 (sq1 fun Rz6 qz6 => ?_)
  refine (ea rfl ⟨rfl,ea rfl ?_⟩)
  rcases hk with rfl | rfl
  ·refine ite2 (fun _ => ?_) (fun z=>absurd (decide_eq_true rfl) z)
   exact (ea rfl (ea rfl ⟨hx,fun H' s'=>qv_of (k H' s') (if_pos rfl)⟩))
  ·refine ite2 (fun z=>absurd z (by decide +kernel)) (fun _ => ?_)
   refine qz6 ?_
   refine (ea rfl (ea rfl ⟨_,ea rfl ⟨.inr rfl,Thing.str hx,fun H' s'=>(ea rfl ?_)⟩⟩))
   have k2:=k H' s'
   rw [if_neg (by decide +kernel)] at k2
   rw [zb6]
   unfold wordV at k2
   refine ite2 (fun a=>(ea rfl ?_)) (fun a => ?_)
   ·rw [if_pos (show isNm x=true from a)] at k2;exact k2
   ·rw [if_neg (show ¬ isNm x=true from a)] at k2;exact k2
end
def valIn (k x:Str):V:=if k = "number" then optV (numIn x.cps.toList) else wordV x
def zbE (cs:List Col) (ws:List Str):Option (List V) :=
 if ws.length=cs.length then (if V.non∈(cs.zip ws).map (fun p=>valIn p.1.2 p.2) then none else some ((cs.zip ws).map fun p=>valIn p.1.2 p.2)) else none
def RowO (H:Hp):Option (List V)→V→Prop
 | none,r=>r = .non
 | some vs,r=>∃ a,r = .ref a∧H a=some (.tup vs)
theorem zfV:∀ xs:List V,inV .non xs=decide (V.non∈xs)
 | []=>rfl
 | x :: xs=>by
  show (eqV x .non || inV .non xs)=_
  rw [zfV xs]
  cases x <;> simp [eqV]
theorem zhf (o:Option Int):flatV (optV o)=true:=by cases o <;> rfl
theorem zfF (k x:Str):flatV (valIn k x)=true:=by
 unfold valIn
 split
 ·exact zhf _
 ·unfold wordV
  split <;> rfl
def zhv:Sp:=fun vs H Q _=>∃ (a b:Addr) (qs:List Addr) (cs:List Col) (ws:List Str),vs = [.ref a,.ref b]∧H a=some (.lst (qs.map V.ref))∧ColsAt H qs cs∧(∀ c∈cs,okCol c)∧cs.length≤4∧H b=some (.lst (ws.map V.str))∧(∀ w∈ws,w.length≤10000) ∧
 ∀ (r:V) (H':Hp),Same H H'→RowO H' (zbE cs ws) r→Q r H'
section
variable {P:Program} {w:World} {K:PySem.W.Frag} {mg:Str→Option Value} {base:Heap}
theorem zhz (T:Txt K mg):FnOk P w K mg base CX0 6 T.values_in.f T.values_in.fd ["columns", "words"] zhv:=by
 have G_value_in:FnOk P w K mg base CX0 5 T.value_in.f T.value_in.fd _ _:=ze8 T
 refine T.values_in.fn.ok sc_values_in (fun vs H Q E h => ?_) (fun cdv A outer s H vs Q E hr h => ?_)
 ·obtain ⟨a,b,qs,cs,ws,rfl,_⟩:=h
  rfl
 ·obtain ⟨a,b,qs,cs,ws,rfl,ha,hc,okc,l4,hb,hw,q⟩:=h
  have lq:qs.length=cs.length:=yaz hc
  refine ⟨_,((zae (ps_if (zan op_ne (zak (zap (K:=K) rfl) (by rfl) T.b_len za0 (zaa (pv 1) zad)) (zak (zap (K:=K) rfl) (by rfl) T.b_len za0 (zaa (pv 0) zad)) (zaA _)) (zah (zao zaZ)) zau)
   (zae (zdo (i:=2) sc_values_in.nd rfl (yaR rfl) (N := ["column", "word"]) (own:=2) (caps := []) rfl (by kernel_rfl) (by kernel_rfl) (pi_zipL (K:=K) rfl rfl T.b_zip (zaa (pv 0) (zaa (pv 1) zad))) (fun _ _ _ _ _=>(zbL (K:=K) (n:=2) rfl rfl (zaC (zal (i:=0) (show List.Nodup (["column", "word"]:List Str) by decide +kernel) rfl (yaR rfl)) (zaC (zal (i:=1) (show List.Nodup (["column", "word"]:List Str) by decide +kernel) rfl (yaR rfl)) zbM)))) (fun _ _ _ _ _=>zaM) (fun _ _ _ _ _=>(zam G_value_in (hr.mono (by decide)) rfl (zaa (pe_ix (zaK (K:=K) rfl) (pv 0) zaf (fun _ _=>rfl)) (zaa (pv 1) zad)))))
   (zah (zao (zcQ (zan (zcF (K:=K) rfl) zaZ (pv 2) (by with_unfolding_all rfl)) zaZ (zav (zbl (K:=K) rfl) (by rfl) T.b_tuple zbT (zaa (pv 2) zad)))))))),?_⟩
  refine sq1 fun Rz1 qz1 => ?_
  refine (ea rfl ⟨b,ea rfl ⟨.inl (SqL.of hb),ea rfl ⟨a,ea rfl ⟨.inl (SqL.of ha),rfl,ea rfl ?_⟩⟩⟩⟩)
  rw [yaa,yaa]
  refine ite2 (fun z => ?_) (fun z => ?_)
  ·refine q _ H (Same.refl H) ?_
   have e:¬ ws.length=cs.length:=fun y=>by rw [y,lq] at z;simp at z
   unfold zbE
   rw [if_neg e]
   rfl
  ·have en:ws.length=qs.length:=by
    by_cases y:ws.length=qs.length
    ·exact y
    ·exact absurd (by simp;omega) z
   refine qz1 (sq1 fun Rz2 qz2 => ?_)
   refine (ea rfl (ea rfl ⟨a,b,rfl,⟨_,SqL.of ha⟩,⟨_,SqL.of hb⟩,fun D hD => ?_⟩))
   refine zaz (J:=ItzL K a b) qs.length (fun j τ H2=>∃ v1 v2,τ = [v1,v2]∧Same H H2∧H2 D=some (.lst (((cs.zip ws).take j).map fun p=>valIn p.1.2 p.2))) ?_ ?_ ?_ ?_ ?_
   ·exact ⟨none,none,rfl,Same.new hD,zab⟩
   ·rintro j τ H2 hj ⟨_,_,_,sm,_⟩
    exact ⟨_,_,.ref qs[j],.str (ws[j]'(by omega)),SqL.of (sm _ _ ha),SqL.of (sm _ _ hb),by rw [yae,yab hj];rfl,by rw [yae,yab];rfl⟩
   ·rintro τ H2 ⟨_,_,_,sm,_⟩
    exact ⟨_,SqL.of (sm _ _ ha),by rw [yaa],_,SqL.of (sm _ _ hb)⟩
   ·rintro j τ H2 x H3 hj ⟨v1,v2,rfl,sm,hd⟩ ⟨u,x',y',hu,rfl,rfl,hx',hy'⟩
    have e1:=hx' _ (SqL.of (sm _ _ ha))
    rw [yae,yab hj] at e1
    cases e1
    have hj2:j < ws.length:=by omega
    have hj3:j < cs.length:=by omega
    have e2:=hy' _ (SqL.of (sm _ _ hb))
    rw [yae,yab hj2] at e2
    cases e2
    have s3:Same H2 (upd H2 u (.tup [.ref qs[j],.str ws[j]])):=Same.new hu
    refine ⟨u,ea rfl ⟨SqT.of zab,rfl,_,ea rfl ⟨_,ea rfl ⟨rfl,?_⟩⟩⟩⟩
    refine (ea rfl (ixTc (SqT.of (s3 _ _ (sm _ _ (Paired.at hc j hj hj3)))) rfl (ea rfl ⟨_,ea rfl ⟨(okc _ (yam hj3)).2,hw _ (yam hj2),fun H5 s5 => ?_⟩⟩)))
    have S5:Same H2 H5:=s3.trans s5
    refine ⟨_,S5 _ _ hd,?_,_,ea rfl ⟨(sm.trans S5).upd hD,?_⟩⟩
    ·rw [yaa,yaj]
     exact zai (by omega)
    ·have hz:(cs.zip ws)[j]? = some (cs[j],ws[j]):=by rw [yab (by rw [ycl];omega),ydO]
     rw [zab,ybc,hz,yah]
     rfl
   ·rintro τ H2 ⟨v1,v2,rfl,sm,hd⟩
    rw [yaA (by rw [ycl];omega)] at hd
    refine qz2 ?_
    refine (ea rfl ⟨D,ea rfl ⟨.inl (SqL.of hd),rfl,?_,ea rfl ?_⟩⟩)
    ·rw [ycw]
     exact yaP.mpr fun p _=>zfF _ _
    ·show if (if false=true then _ else _)=true then _ else _
     rw [if_neg (show ¬ false=true by decide),zfV]
     have vi:∀ o,(if V.non∈(cs.zip ws).map (fun p=>valIn p.1.2 p.2) then none else some ((cs.zip ws).map fun p=>valIn p.1.2 p.2))=o→zbE cs ws=o:=fun o e=>by
      unfold zbE
      rw [if_pos (by omega)]
      exact e
     refine ite2 (fun z => ?_) (fun z => ?_)
     ·have z:=of_decide_eq_true z
      refine q _ H2 sm ?_
      rw [vi none (if_pos z)]
      rfl
     ·have z:¬ V.non∈(cs.zip ws).map (fun p=>valIn p.1.2 p.2):=fun y=>z (decide_eq_true y)
      refine (ea rfl ⟨D,ea rfl (.inl ⟨SqL.of hd,fun l hl => ?_⟩)⟩)
      refine q _ _ (sm.trans (Same.new hl)) ?_
      rw [vi _ (if_neg z)]
      exact ⟨l,rfl,zab⟩
end
def Draws (ds:List Int):Prop:=∀ d∈ds,0≤d∧d < 10000000000
theorem Draws.at {ds:List Int} (h:Draws ds) {j:Nat} (hj:j < ds.length):0≤ds.getD j 0∧ds.getD j 0 < 10000000000:=h _ (L2.getD_mem hj)
def zfW:Sp:=fun vs H Q _=>∃ (c m:Int),vs = [.int c,.int m]∧0≤m∧m≤1000∧∀ (D:Addr) (ds:List Int) (H':Hp),Same H H'→H D=none→H' D=some (.lst (ds.map V.int))→(ds.length:Int)=m→Draws ds→Q (.ref D) H'
def zgt:Sp:=fun vs H Q _=>∃ (c m:Int),vs = [.int c,.int m]∧0≤m∧m≤1000∧∀ (D:Addr) (ys:List Str) (H':Hp),Same H H'→H D=none→H' D=some (.lst (ys.map V.str))→(ys.length:Int)=m→(∀ y∈ys,isNm y=true)→(m≤26→ys.Nodup)→Q (.ref D) H'
def zgk:Sp:=fun vs H Q _=>∃ k d,vs = [.str k,.int d]∧(k = "number"∨k = "word")∧0≤d∧d < 10000000000∧∀ v H',Same H H'→isVal k v=true→Q v H'
def zg5 (K:PySem.W.Frag):Sp:=fun vs H Q _=>∃ (a:Addr) (ns:List Int) (k:Int),vs = [.ref a,.int k]∧SqL K H a (ns.map V.int)∧0≤k∧∀ c,Q (.int c) H
theorem pow10_10:(10:Int) ^ (10:Int).toNat=10000000000:=by decide
theorem cpow {j:Int} (h0:0≤j:=by decide) (h1:j≤1000000:=by decide):CPow 10 j:=⟨h0,h1,by decide⟩
theorem Draws.snoc {ds:List Int} {d:Int} (h:Draws ds) (h0:0≤d) (h1:d < 10000000000):Draws (ds ++ [d]):=fun e he=>by
 rcases ybn.mp he with z | z
 ·exact h e z
 ·rw [ya4.mp z];exact ⟨h0,h1⟩
section
variable {P:Program} {w:World} {K:PySem.W.Frag} {mg:Str→Option Value} {base:Heap}
theorem zbY (T:Txt K mg):FnOk P w K mg base CX0 1 T._law_draws.f T._law_draws.fd ["_law_cell_here", "_law_many"] zfW:=by
 refine T._law_draws.fn.ok sc__law_draws (fun vs H Q E h => ?_) (fun cdv A outer s H vs Q E hr h => ?_)
 ·obtain ⟨c,m,rfl,_⟩:=h
  rfl
 ·obtain ⟨c,m,rfl,h0,hm,k⟩:=h
  refine ⟨_,((zae (zat (i:=2) sc__law_draws.nd rfl (yaR rfl) (zaS zad))
   (zae (zat (i:=3) sc__law_draws.nd rfl (yaR rfl) (zak call_abs (by rfl) T.b_abs bt_abs (zaa (pv 0) zad)))
   (zae (zat (i:=4) sc__law_draws.nd rfl (yaR rfl) (pe_op zaX (pv 3) zaf))
   (zae (zcZ yb8 rfl (zcI rfl T.b_range (zaa (pv 1) zad)) (zal (i:=5) sc__law_draws.nd rfl (yaR rfl)) (zae (zat (i:=4) sc__law_draws.nd rfl (yaR rfl) (pe_op zaX (pe_op za6 (pe_op za6 (pe_op zdP (pv 4) zaf) (pe_op zdP zaf (pv 5))) zaf) zaf))
   (zah (ps_if (zan op_ge (pv 3) (pe_op zd7 zaf zaf) (zaA _)) (zae (zbp (zaY (K:=K) rfl ya8 ybE ybF zbA (pv 2) (zaa (pe_op zaX (pv 3) (pe_op zd7 zaf zaf)) zad)))
   (zah (zat (i:=3) sc__law_draws.nd rfl (yaR rfl) (pe_op zdd (pv 3) (pe_op zd7 zaf zaf))))) (zah (zbp (zaY (K:=K) rfl ya8 ybE ybF zbA (pv 2) (zaa (pe_op zaX (pe_op zdP (pv 4) (pe_op za6 (pv 4) zaf)) zaf) zad))))))))
   (zah (zao (pv 2)))))))),?_⟩
  refine sq1 fun Rz1 qz1 => ?_
  refine ⟨ya2 _,fun D hD => ?_⟩
  refine qz1 (sq1 fun Rz2 qz2 => ?_)
  refine (ea rfl (ea rfl ?_))
  have hL0:0≤(if c < 0 then -c else c):=by split <;> omega
  generalize (if c < 0 then -c else c)=L0 at hL0 ⊢
  refine qz2 (sq1 fun Rz3 qz3 => ?_)
  refine (ea rfl (opJc (show (0:Int) < 2147483647 by decide) ?_))
  have hM0:=ya7 L0 (by decide:(2147483647:Int)≠0)
  have hM1:=yaU L0 (by decide:(0:Int) < 2147483647)
  dsimp only
  generalize L0 % 2147483647=M0 at hM0 hM1 ⊢
  refine qz3 (sq1 fun Rz4 qz4 => ?_)
  refine ⟨_,rfl,_,rfl,by omega,by omega,zdy (lo:=0) (n:=m.toNat) (fun i σ H2=>∃ (L M:Int) (kk:Option V) (ds:List Int),σ = [some (.int c),some (.int m),some (.ref D),some (.int L),some (.int M),kk]∧Same H H2∧H2 D=some (.lst (ds.map V.int))∧ds.length=i∧Draws ds∧0≤L∧0≤M∧M < 2147483647)
   ⟨L0,M0,none,[],rfl,Same.new hD,zab,rfl,(fun _ z=>nomatch z),hL0,hM0,hM1⟩ ?_ ?_⟩
  ·rintro i σ H2 hi ⟨L,M,kk,ds,rfl,sm,hd,hl,hds,hL,hN0,hN1⟩
   refine sq1 fun Rz5 qz5 => ?_
   refine (ea rfl ⟨_,ea rfl ⟨rfl,.inl ⟨by omega,by omega⟩,ea rfl ⟨_,ea rfl ⟨rfl,.inl ⟨by decide,by decide⟩,_,ea rfl ⟨rfl,_,ea rfl ⟨rfl,opJc (show (0:Int) < 2147483647 by decide) ?_⟩⟩⟩⟩⟩⟩)
   have hP0:=ya7 (M*48271+7919*(0+(i:Int))+11) (by decide:(2147483647:Int)≠0)
   have hP1:=yaU (M*48271+7919*(0+(i:Int))+11) (by decide:(0:Int) < 2147483647)
   dsimp only
   generalize (M*48271+7919*(0+(i:Int))+11) % 2147483647=M1 at hP0 hP1 ⊢
   refine qz5 ?_
   refine (ea rfl ⟨_,ea rfl ⟨rfl,cpow,_,ea rfl ⟨rfl,ea rfl ?_⟩⟩⟩)
   have small:(ds.map V.int).length < yaW:=by rw [yaa];exact zai (by omega)
   refine ite2 (fun h1 => ?_) (fun h1 => ?_)
   ·have e0:=ya7 L (by decide:(10000000000:Int)≠0)
    have e1:=yaU L (by decide:(0:Int) < 10000000000)
    refine sq1 fun Rz6 qz6 => ?_
    refine (ea rfl ⟨.inl ⟨rfl,_,SqL.of hd⟩,ea rfl ⟨_,ea rfl ⟨rfl,cpow,opJ (show (0:Int) < 10 ^ (10:Int).toNat by decide) ⟨_,_,ea rfl ⟨rfl,hd,small,?_⟩⟩⟩⟩⟩)
    refine qz6 ?_
    refine (ea rfl ⟨_,ea rfl ⟨rfl,cpow,_,ea rfl ⟨rfl,⟨(show (0:Int) < 10 ^ (10:Int).toNat by decide),(show (10:Int) ^ (10:Int).toNat < 2 ^ 64 by decide)⟩,?_⟩⟩⟩)
    dsimp only
    rw [pow10_10]
    exact ⟨L / 10000000000,M1,_,ds ++ [L % 10000000000],rfl,sm.upd hD,by rw [zab,yah];rfl,by simp [hl],hds.snoc e0 e1,Int.ediv_nonneg hL (by decide),hP0,hP1⟩
   ·have e0:=ya7 (M1*(M1+7)) (by decide:(2147483629:Int)≠0)
    have e1:=yaU (M1*(M1+7)) (by decide:(0:Int) < 2147483629)
    refine (ea rfl ⟨.inl ⟨rfl,_,SqL.of hd⟩,ea rfl (ea rfl ⟨_,ea rfl ⟨rfl,_,ea rfl ⟨rfl,.inl ⟨by omega,by omega⟩,opJc (show (0:Int) < 2147483629 by decide) ⟨_,_,ea rfl ⟨rfl,hd,small,?_⟩⟩⟩⟩⟩)⟩)
    exact ⟨L,M1,_,ds ++ [M1*(M1+7) % 2147483629],rfl,sm.upd hD,by rw [zab,yah];rfl,by simp [hl],hds.snoc e0 (by omega),hL,hP0,hP1⟩
  ·rintro σ H2 ⟨L,M,kk,ds,rfl,sm,hd,hl,hds,_⟩
   refine qz4 ?_
   exact (ea rfl (k D ds H2 sm hD hd (by omega) hds))
end
section
variable {P:Program} {w:World} {K:PySem.W.Frag} {mg:Str→Option Value} {base:Heap}
theorem zgU (T:Txt K mg):FnOk P w K mg base CX0 1 T._law_cell.f T._law_cell.fd ["_law_script", "_law_k"] (zg5 K):=by
 refine T._law_cell.fn.ok zhg (fun vs H Q E h => ?_) (fun cdv A outer s H vs Q E hr h => ?_)
 ·obtain ⟨a,ns,k,rfl,_⟩:=h
  rfl
 ·obtain ⟨a,ns,kk,rfl,hS,h0,k⟩:=h
  refine ⟨_,((zae (ps_if (zan op_lt (pv 1) (zak (zap (K:=K) rfl) (by rfl) T.b_len za0 (zaa (pv 0) zad)) (zaA _)) (zah (zao (pe_ix (zaj (K:=K) rfl) (pv 0) (pv 1) (fun _ _=>rfl)))) zau)
   (zah (zao (pe_op za6 (pe_op zdP zaf (pv 1)) zaf))))),?_⟩
  refine sq1 fun Rz7 qz7 => ?_
  refine (ea rfl (ea rfl ⟨_,ea rfl ⟨.inl hS,_,ea rfl ⟨rfl,ea rfl ?_⟩⟩⟩))
  refine ite2 (fun h1 => ?_) (fun h1 => ?_)
  ·have h1:=of_decide_eq_true h1
   rw [yaa] at h1
   exact (ea rfl (ea rfl ⟨_,_,_,ea rfl ⟨rfl,hS,zbd h0 h1,k _⟩⟩))
  ·refine qz7 ?_
   exact (ea rfl ⟨_,ea rfl ⟨rfl,.inl ⟨by decide,by decide⟩,_,ea rfl ⟨rfl,k _⟩⟩⟩)
end
abbrev abc:Str := "abcdefghijklmnopqrstuvwxyz"
theorem abc_len:abc.cps.toList.length=26:=by decide +kernel
theorem abc_low:abc.cps.toList.all isLow=true:=by decide +kernel
def sign (g:Int):Nat:=abc.cps.toList.getD g.toNat 0
theorem sign_low {g:Int} (h0:0≤g) (h1:g < 26):isLow (sign g)=true :=
 yaP.mp abc_low _ (L2.getD_mem (by rw [abc_len];omega))
theorem ziD {α:Type} (f:α→Str) (h:∀ a,(f a).length=1):∀ l:List α,((l.map f).map (·.length)).sum=l.length
 | []=>rfl
 | a :: l=>by
  rw [yan,yan,yb9,ziD f h l,h a,yal]
  omega
theorem zju (gs:List Int):ybG "" (gs.map fun g=>(⟨#[sign g]⟩:Str)) = ⟨(gs.map sign).toArray⟩:=by
 have e:("" : Str) = ⟨#[]⟩:=by decide +kernel
 rw [e]
 show Builtin.Str.glued _ _=_
 rw [ydq]
 have:=join_ones (gs.map sign)
 rw [ybb] at this
 exact this
theorem nm_signs {gs:List Int} (hl:1≤gs.length) (hl2:gs.length≤8) (h:∀ g∈gs,0≤g∧g < 26):isNm ⟨(gs.map sign).toArray⟩=true:=by
 have el:(⟨(gs.map sign).toArray⟩:Str).length=gs.length:=by
  show (gs.map sign).toArray.size=_
  simp
 unfold isNm
 rw [el,decide_eq_true hl,decide_eq_true hl2,ydv,ydv]
 show ((gs.map sign).toArray.toList).all isLow=true
 rw [List.toList_toArray,ycw,yaP]
 intro g hg
 exact sign_low (h g hg).1 (h g hg).2
theorem abc_at:∀ k < 26,abc.cps.toList.getD k 0=97+k:=by decide +kernel
theorem sign_inj {a b:Int} (a0:0≤a) (a1:a < 26) (b0:0≤b) (b1:b < 26) (e:sign a=sign b):a=b:=by
 unfold sign at e
 rw [abc_at _ (by omega),abc_at _ (by omega)] at e
 omega
def nsg (ds:List Int) (Z:Int) (i j:Nat):Int:=(ds.getD ((2:Int)+(0+(j:Int))).toNat 0+(0+(i:Int))*(if decide (V.int (0+(j:Int))=V.int Z)=true then 1 else 0)) % 26
theorem zhq (ds:List Int) (Z:Int) (i j:Nat):0≤nsg ds Z i j∧nsg ds Z i j < 26:=⟨ya7 _ (by decide),yaU _ (by decide)⟩
def nmo (ds:List Int) (S:Nat) (Z:Int) (i:Nat):Str:=⟨(((ycz S).map (nsg ds Z i)).map sign).toArray⟩
theorem nmo_inj {ds:List Int} {S:Nat} {Z:Int} (h0:0≤Z) (h1:Z < S) {i j:Nat} (hi:i < 26) (hj:j < 26) (e:nmo ds S Z i=nmo ds S Z j):i=j:=by
 unfold nmo at e
 injection e with e
 have e:=congrArg Array.toList e
 simp only at e
 have e2:=congrArg (fun l=>l[Z.toNat]?) e
 have hz:Z.toNat < S:=by omega
 simp only [yae,List.getElem?_range hz,Option.map_some] at e2
 have e3:=sign_inj (zhq ..).1 (zhq ..).2 (zhq ..).1 (zhq ..).2 (yas e2)
 unfold nsg at e3
 have ez:decide (V.int (0+(Z.toNat:Int))=V.int Z)=true:=decide_eq_true (by congr 1;omega)
 simp only [ez,if_true] at e3
 omega
theorem zhc {ds:List Int} {S:Nat} {Z:Int} (h0:0≤Z) (h1:Z < S):∀ {m:Nat},m≤26→((ycz m).map (nmo ds S Z)).Nodup
 | 0,_=>yfv
 | m+1,h=>by
  rw [ye5,yah,ydx]
  refine ⟨zhc h0 h1 (by omega),by simp,fun a ha b hb => ?_⟩
  obtain ⟨i,hi,rfl⟩:=yaG.mp ha
  have hb':b=nmo ds S Z m:=by simpa using hb
  rw [hb']
  intro e
  have:=yek.mp hi
  have:=nmo_inj h0 h1 (by omega) (by omega) e
  omega
section
variable {P:Program} {w:World} {K:PySem.W.Frag} {mg:Str→Option Value} {base:Heap}
theorem zdB (T:Txt K mg):FnOk P w K mg base CX0 2 T._law_names.f T._law_names.fd ["_law_cell_here", "_law_many"] zgt:=by
 have G__law_draws:FnOk P w K mg base CX0 1 T._law_draws.f T._law_draws.fd _ _:=zbY T
 refine T._law_names.fn.ok sc__law_names (fun vs H Q E h => ?_) (fun cdv A outer s H vs Q E hr h => ?_)
 ·obtain ⟨c,m,rfl,_⟩:=h
  rfl
 ·obtain ⟨c,m,rfl,h0,hm,k⟩:=h
  refine ⟨_,((zae (zat (i:=2) sc__law_names.nd rfl (Or.inr rfl) zay)
   (zae (zat (i:=3) sc__law_names.nd rfl (Or.inr rfl) (zam G__law_draws (hr.mono (by decide)) rfl (zaa (pv 0) (zaa zaf zad))))
   (zae (zat (i:=4) sc__law_names.nd rfl (yaR rfl) (pe_op za6 zaf (pe_op zaX (pe_ix (zaj (K:=K) rfl) (pv 3) zaf (fun _ _=>rfl)) zaf)))
   (zae (zat (i:=5) sc__law_names.nd rfl (Or.inr rfl) (pe_op zaX (pe_ix (zaj (K:=K) rfl) (pv 3) zaf (fun _ _=>rfl)) (pv 4)))
   (zae (zat (i:=6) sc__law_names.nd rfl (yaR rfl) (zaS zad))
   (zae (zcZ yb8 rfl (zcI rfl T.b_range (zaa (pv 1) zad)) (zal (i:=7) sc__law_names.nd rfl (Or.inr rfl)) (zae (zdo (i:=8) sc__law_names.nd rfl (yaR rfl) (N := ["_law_j", "_law_draws_here", "_law_k", "_law_at"]) (own:=1) (caps := [3,7,5]) rfl (by kernel_rfl) (by kernel_rfl) (zcI rfl T.b_range (zaa (pv 4) zad)) (fun _ _ _ _ _=>zal (i:=0) (show List.Nodup (["_law_j", "_law_draws_here", "_law_k", "_law_at"]:List Str) by decide +kernel) rfl (yaR rfl)) (fun _ _ _ _ _=>zaM) (fun _ _ _ _ _=>(pe_op zaX (pe_op za6 (pe_ix (zaj (K:=K) rfl) (pv 1) (pe_op za6 zaf (pv 0)) (fun _ _=>rfl)) (pe_op zdP (pv 2) (zav zdE (by rfl) T.b_int zdO (zaa (zeu op_eq (pv 0) (pv 3) (zaA _)) zad)))) zaf)))
   (zah (zbp (zaY (K:=K) rfl ya8 ybE ybF zbA (pv 6) (zaa (zaY (K:=K) rfl yaQ ybV ybW (zcl (K:=K) rfl) zay (zaa (zaR (N := ["_law_sign", "_law_letters"]) (own:=1) (caps := [2]) rfl (by kernel_rfl) (by kernel_rfl) (zaQ (K:=K) rfl (pv 8)) (fun _ _ _ _ _=>zal (i:=0) (show List.Nodup (["_law_sign", "_law_letters"]:List Str) by decide +kernel) rfl (yaR rfl)) (fun _ _ _ _ _=>zaM) (fun _ _ _ _ _=>(pe_ix ix_str (pv 1) (pv 0) (fun _ _=>rfl)))) zad)) zad))))))
   (zah (zao (pv 6)))))))))),?_⟩
  refine sq2 fun Rz8 qz8 => ?_
  refine (ea rfl ⟨_,ea rfl ⟨by decide,by decide,fun D ds H1 s1 hD hd hl hds => ?_⟩⟩)
  have d0:=hds.at (j:=0) (by omega)
  have d1:=hds.at (j:=1) (by omega)
  refine qz8 (sq1 fun Rz9 qz9 => ?_)
  refine (ea rfl (ixLc (SqL.of hd) (zbd (by decide) (by omega)) (opJc (show (0:Int) < 8 by decide) ⟨_,ea rfl ⟨rfl,?_⟩⟩)))
  dsimp only
  obtain ⟨S,hS⟩:∃ S,S=1+ds.getD (0:Int).toNat 0 % 8:=⟨_,rfl⟩
  rw [← hS]
  have hS0:1≤S∧S≤8:=by
   have e0:=ya7 (ds.getD (0:Int).toNat 0) (by decide:(8:Int)≠0)
   have e1:=yaU (ds.getD (0:Int).toNat 0) (by decide:(0:Int) < 8)
   omega
  refine qz9 (sq1 fun Rz10 qz10 => ?_)
  refine (ea rfl (ixLc (SqL.of hd) (zbd (by decide) (by omega)) (ea rfl ⟨_,ea rfl ⟨rfl,(show 0 < S by omega),?_⟩⟩)))
  dsimp only
  have hZ0:=ya7 (ds.getD (1:Int).toNat 0) (show S≠0 by omega)
  have hZ1:=yaU (ds.getD (1:Int).toNat 0) (show 0 < S by omega)
  generalize ds.getD (1:Int).toNat 0 % S=Z at hZ0 hZ1 ⊢
  refine qz10 (sq1 fun Rz11 qz11 => ?_)
  refine ⟨ya2 _,fun D2 hfree => ?_⟩
  refine qz11 (sq1 fun Rz12 qz12 => ?_)
  refine ⟨_,rfl,_,rfl,by omega,by omega,zdy (lo:=0) (n:=m.toNat) (fun i σ H2=>∃ (kk sg:Option V) (ys:List Str),σ = [some (.int c),some (.int m),some (.str abc),some (.ref D),some (.int S),some (.int Z),some (.ref D2),kk,sg]∧Same H1 H2∧H2 D2=some (.lst (ys.map V.str))∧ys.length=i∧(∀ y∈ys,isNm y=true)∧ys=(ycz i).map (nmo ds S.toNat Z))
   ⟨none,none,[],rfl,Same.new hfree,zab,rfl,(fun _ z=>nomatch z),rfl⟩ ?_ ?_⟩
  ·rintro i σ H2 hi ⟨kk,sg,ys,rfl,sm,hd2,hl2,hy,hyn⟩
   refine sq1 fun Rz13 qz13 => ?_
   refine (ea rfl (ea rfl ⟨by omega,by omega,fun D3 hD3 => ?_⟩))
   refine zaz (J:=Itr 0 S.toNat) S.toNat (fun j τ H3=>∃ (v:Option V) (gs:List Int),τ = [v,some (.ref D),some (.int (0+(i:Int))),some (.int Z)]∧Same H2 H3∧H3 D3=some (.lst (gs.map V.int))∧gs=(ycz j).map (nsg ds Z i))
    ?_ (fun j τ H3 hj _=>hj) (fun τ H3 _=>yag _) ?_ ?_
   ·exact ⟨none,[],rfl,Same.new hD3,zab,rfl⟩
   ·rintro j τ H3 y H4 hj ⟨v,gs,rfl,sm3,hd3,hg⟩ ⟨rfl,rfl⟩
    have hdD:H4 D=some (.lst (ds.map V.int)):=sm3 _ _ (sm _ _ hd)
    have hl3:gs.length=j:=by rw [hg];simp
    refine (ea rfl (ea rfl ⟨_,ea rfl ⟨rfl,ixL (SqL.of hdD) (zbd (by omega) (by omega)) (ea rfl (ea rfl (ea rfl ⟨rfl,.inr (ea rfl ⟨_,ea rfl ⟨rfl,.inl ⟨by omega,by omega⟩,_,ea rfl ⟨rfl,opJc (show (0:Int) < 26 by decide) ⟨_,hd3,?_,?_⟩⟩⟩⟩)⟩)))⟩⟩))
    ·rw [yaa];exact zai (by omega)
    ·refine ⟨_,gs ++ [nsg ds Z i j],rfl,sm3.upd hD3,by rw [zab,yah];rfl,by rw [hg,ye5,yah];rfl⟩
   ·rintro τ H3 ⟨v,gs,rfl,sm3,hd3,hgs⟩
    have hl3:gs.length=S.toNat:=by rw [hgs];simp
    have hg:∀ g∈gs,0≤g∧g < 26:=fun g z=>by
     rw [hgs] at z
     obtain ⟨j,_,rfl⟩:=yaG.mp z
     exact zhq ..
    refine qz13 ?_
    refine (ea rfl ⟨.inl ⟨rfl,_,SqL.of (sm3 _ _ hd2)⟩,rfl,ea rfl (ea rfl ⟨⟨_,SqL.of hd3⟩,fun D4 hD4 => ?_⟩)⟩)
    refine zaz (J:=Itl K D3) gs.length (fun j τ H5=>∃ (v:Option V),τ = [v,some (.str abc)]∧Same H3 H5∧H5 D4=some (.lst ((gs.take j).map fun g=>V.str ⟨#[sign g]⟩)))
     ?_ (fun j τ H5 hj ⟨_,_,sm5,_⟩=>⟨_,.int gs[j],SqL.of (sm5 _ _ hd3),by rw [yae,yab hj];rfl⟩)
     (by rintro τ H5 ⟨_,_,sm5,_⟩;exact ⟨_,SqL.of (sm5 _ _ hd3),by rw [yaa];exact yag _⟩) ?_ ?_
    ·exact ⟨none,rfl,Same.new hD4,zab⟩
    ·rintro j τ H5 y H6 hj ⟨v5,rfl,sm5,hd5⟩ ⟨rfl,hy5⟩
     have e5:=hy5 _ (SqL.of (sm5 _ _ hd3))
     rw [yae,yab hj] at e5
     cases (yas e5)
     have hgj:=hg gs[j] (yam hj)
     refine (ea rfl (ea rfl ⟨_,_,ea rfl ⟨rfl,zac (by decide +kernel),ziC hgj.1 (by rw [abc_len];omega),_,hd5,?_,?_⟩⟩))
     ·rw [yaa,yaj];exact zai (by omega)
     ·refine (ea rfl ⟨sm5.upd hD4,?_⟩)
      rw [zab,ybc,yab hj,yah]
      rfl
    ·rintro τ H5 ⟨v5,rfl,sm5,hd5⟩
     rw [yba] at hd5
     have hD2:H5 D2=some (.lst (ys.map V.str)):=sm5 _ _ (sm3 _ _ hd2)
     refine ⟨_,_,gs.map fun g=>(⟨#[sign g]⟩:Str),rfl,rfl,SqL.of ?_,?_,_,_,ea rfl ⟨rfl,hD2,?_,?_⟩⟩
     ·rw [hd5,ybb];rfl
     ·rw [ziD _ (fun _=>rfl),yaa]
      have:("" : Str).length=0:=by decide +kernel
      rw [this]
      omega
     ·rw [yaa];exact zai (by omega)
     ·rw [zju]
      refine ⟨_,_,ys ++ [⟨(gs.map sign).toArray⟩],rfl,?_,by rw [zab,yah];rfl,by simp [hl2],fun y hym => ?_,by rw [hyn,hgs,ye5,yah];rfl⟩
      ·exact ((sm.trans sm3).trans sm5).upd hfree
      ·rcases ybn.mp hym with z | z
       ·exact hy y z
       ·rw [ya4.mp z]
        exact nm_signs (by omega) (by omega) hg
  ·rintro σ H2 ⟨kk,sg,ys,rfl,sm,hd2,hl2,hy,hyn⟩
   refine qz12 ?_
   exact (ea rfl (k D2 ys H2 (s1.trans sm) (s1.free hfree) hd2 (by omega) hy fun hm26=>hyn ▸ zhc hZ0 (by omega) (by omega)))
end
theorem three {a b c i:Int} {P:Int→Prop} (ha:P a) (hb:P b) (hc:P c) (h0:0≤i) (h1:i < 3):∃ n,atI [V.int a,V.int b,V.int c] i=some (.int n)∧P n:=by
 have:i=0∨i=1∨i=2:=by omega
 rcases this with rfl | rfl | rfl
 ·exact ⟨a,rfl,ha⟩
 ·exact ⟨b,rfl,hb⟩
 ·exact ⟨c,rfl,hc⟩
theorem two {a b:V} {i:Int} {P:V→Prop} (ha:P a) (hb:P b) (h0:0≤i) (h1:i < 2):∃ v,atI [a,b] i=some v∧P v:=by
 have:i=0∨i=1:=by omega
 rcases this with rfl | rfl
 ·exact ⟨a,rfl,ha⟩
 ·exact ⟨b,rfl,hb⟩
section
variable {P:Program} {w:World} {K:PySem.W.Frag} {mg:Str→Option Value} {base:Heap}
theorem zgj (T:Txt K mg):FnOk P w K mg base CX0 3 T._law_value.f T._law_value.fd ["_law_kind", "_law_draw"] zgk:=by
 have G__law_names:FnOk P w K mg base CX0 2 T._law_names.f T._law_names.fd _ _:=zdB T
 refine T._law_value.fn.ok sc__law_value (fun vs H Q E h => ?_) (fun cdv A outer s H vs Q E hr h => ?_)
 ·obtain ⟨kd,d,rfl,_⟩:=h
  rfl
 ·obtain ⟨kd,d,rfl,hk,h0,h1,k⟩:=h
  refine ⟨_,((zae (ps_if (zan op_eq (pv 0) zay (zaA _)) (zah (zao (pe_ix (zaj (K:=K) rfl) (zam G__law_names (hr.mono (by decide)) rfl (zaa (pe_op zdd (pv 1) zaf) (zaa (pe_op za6 zaf (pe_op zaX (pv 1) zaf)) zad))) (pe_op zaX (pv 1) zaf) (fun _ _=>rfl)))) zau)
   (zae (zat (i:=2) sc__law_value.nd rfl (yaR rfl) (pe_ix (zaj (K:=K) rfl) (zaS (zaa (pe_op zaX (pv 1) zaf) (zaa (pe_op zaX (pv 1) (pe_op za6 (pe_op zd7 zaf zaf) zaf)) (zaa (pe_op op_sub (pe_op zd7 zaf zaf) (pe_op zaX (pv 1) zaf)) zad)))) (pe_op zaX (pe_op zdd (pv 1) zaf) zaf) (fun _ _=>rfl)))
   (zah (zao (pe_op zdP (pv 2) (pe_ix (zaj (K:=K) rfl) (zaS (zaa zaf (zaa (pe_un zdQ zaf) zad))) (pe_op zaX (pe_op zdd (pv 1) zaf) zaf) (fun _ _=>rfl)))))))),?_⟩
  refine sq1 fun Rz14 qz14 => ?_
  refine (ea rfl ⟨rfl,ea rfl ?_⟩)
  rcases hk with rfl | rfl
  ·refine ite2 (fun z=>absurd z (by decide +kernel)) (fun _ => ?_)
   have m5:=ya7 d (by decide:(5:Int)≠0)
   have m5':=yaU d (by decide:(0:Int) < 5)
   have m9:=ya7 d (by decide:(1000000001:Int)≠0)
   have m9':=yaU d (by decide:(0:Int) < 1000000001)
   have m3:=ya7 d (by decide:(3:Int)≠0)
   have m3':=yaU d (by decide:(0:Int) < 3)
   obtain ⟨n,hat,hn⟩:=three (P:=fun n=>0≤n∧n≤1000000000) (a:=d % 5) (b:=d % (1000000000+1)) (c:=1000000000 - d % 3) (i:=d / 7 % 3) (by omega) (by constructor <;> omega) (by omega) (ya7 _ (by decide)) (yaU _ (by decide))
   obtain ⟨v,hat2,g,rfl,hg⟩:=two (P:=fun v=>∃ g:Int,v = .int g∧(g=1∨g = -1)) (a := .int 1) (b := .int (-1)) (i:=d / 21 % 2) ⟨1,rfl,.inl rfl⟩ ⟨-1,rfl,.inr rfl⟩ (ya7 _ (by decide)) (yaU _ (by decide))
   refine qz14 (sq1 fun Rz15 qz15 => ?_)
   refine (ea rfl (opJc (show (0:Int) < 5 by decide) (ea rfl ⟨_,ea rfl ⟨rfl,cpow,_,ea rfl ⟨rfl,opJ (show (0:Int) < 10 ^ (9:Int).toNat+1 by decide) ⟨_,ea rfl ⟨rfl,cpow,ea rfl (opJc (show (0:Int) < 3 by decide) ⟨_,ea rfl ⟨rfl,zac (show 3≤100000 by decide),fun p hp => ?_⟩⟩)⟩⟩⟩⟩⟩)))
   refine (ea rfl ⟨_,ea rfl ⟨rfl,⟨(show (0:Int) < 7 by decide),(show (7:Int) < 2 ^ 64 by decide)⟩,opJc (show (0:Int) < 3 by decide) (ixL (SqL.of zab) hat ?_)⟩⟩)
   refine qz15 ?_
   refine (ea rfl (ea rfl ⟨zac (show 2≤100000 by decide),fun p2 hp2 => ?_⟩))
   refine (ea rfl ⟨_,ea rfl ⟨rfl,⟨(show (0:Int) < 21 by decide),(show (21:Int) < 2 ^ 64 by decide)⟩,opJc (show (0:Int) < 2 by decide) (ixL (SqL.of zab) hat2 ⟨_,ea rfl ⟨rfl,.inl ⟨by omega,by omega⟩,?_⟩⟩)⟩⟩)
   refine k _ _ ((Same.new hp).upd ((Same.new hp).free hp2)) ?_
   rw [zbr]
   rcases hg with rfl | rfl
   ·simp only [isNum,yaL,decide_eq_true_eq];omega
   ·simp only [isNum,yaL,decide_eq_true_eq];omega
  ·refine ite2 (fun _ => ?_) (fun z=>absurd (decide_eq_true rfl) z)
   have m3:=ya7 d (by decide:(3:Int)≠0)
   have m3':=yaU d (by decide:(0:Int) < 3)
   refine (ea rfl ⟨_,ea rfl ⟨rfl,⟨(show (0:Int) < 3 by decide),(show (3:Int) < 2 ^ 64 by decide)⟩,ea rfl (opJc (show (0:Int) < 3 by decide) ⟨_,ea rfl ⟨rfl,_,ea rfl ⟨by omega,by omega,fun D ys H1 s1 hD hd hl hy _ => ?_⟩⟩⟩)⟩⟩)
   refine (ea rfl (opJc (show (0:Int) < 3 by decide) (ixL (SqL.of hd) (atI_strs m3 (by omega)) ?_)))
   refine k _ H1 s1 ?_
   rw [zb6]
   exact hy _ (L2.getD_mem (by omega))
end
def TabL (ex:List Addr) (H:Hp) (t:Addr) (d:Tab):Prop:=∃ (ca:Addr) (qs:List Addr),H t=some (.tup [.str d.1,.ref ca])∧H ca=some (.lst (qs.map V.ref))∧ColsAt H qs d.2∧ca∉ex
theorem TabL.same {ex:List Addr} {H H':Hp} {t:Addr} {d:Tab} (h:TabL ex H t d) (s:Same H H'):TabL ex H' t d:=let ⟨ca,qs,a,b,c,e⟩:=h;⟨ca,qs,s _ _ a,s _ _ b,c.same s,e⟩
theorem TabL.updL {ex:List Addr} {H:Hp} {t D:Addr} {d:Tab} {xs:List V} {o:HO} (h:TabL ex H t d) (hd:H D=some (.lst xs)) (hx:D∈ex):TabL ex (upd H D o) t d:=by
 obtain ⟨ca,qs,a,b,c,e⟩:=h
 refine ⟨ca,qs,?_,?_,c.updL hd,e⟩
 ·rw [zar fun z=>by rw [z,hd] at a;cases a];exact a
 ·rw [zar (fun z:ca=D=>e (by rw [z];exact hx))];exact b
def TabsL (ex:List Addr) (H:Hp) (ts:List Addr) (ds:List Tab):Prop:=Paired (TabL ex H) ts ds
theorem TabsL.same {ex:List Addr} {H H':Hp} {ts:List Addr} {ds:List Tab} (h:TabsL ex H ts ds) (s:Same H H'):TabsL ex H' ts ds:=Paired.mapP h fun _ _ e=>e.same s
theorem TabsL.updL {ex:List Addr} {H:Hp} {D:Addr} {ts:List Addr} {ds:List Tab} {xs:List V} {o:HO} (h:TabsL ex H ts ds) (hd:H D=some (.lst xs)) (hx:D∈ex):TabsL ex (upd H D o) ts ds:=Paired.mapP h fun _ _ e=>e.updL hd hx
def somes (ds:List Tab):List Col:=ds.flatMap fun d=>(d.2.drop 1).map fun c=>(d.1,c.1)
theorem zjA (ds:List Tab) (d:Tab):somes (ds ++ [d])=somes ds++(d.2.drop 1).map fun c=>(d.1,c.1):=by
 unfold somes
 rw [List.flatMap_append]
 simp
theorem somes_ok {ds:List Tab} (h:∀ d∈ds,okTab d.1 d.2):∀ c∈somes ds,okOrd ds c:=fun c hc=>by
 obtain ⟨d,hd,hm⟩:=List.mem_flatMap.mp hc
 obtain ⟨q,hq,rfl⟩:=yaG.mp hm
 obtain ⟨k,hk,rfl⟩:=ybU hd
 have ok:=h _ (yam hk)
 exact ⟨ok.1,(ok.2.2.2.1 q (yeF hq)).1,k,hk,rfl,yaG.mpr ⟨q,hq,rfl⟩⟩
theorem zeP:∀ {ds:List Tab},(∀ d∈ds,okTab d.1 d.2)→(ds.map (·.1)).Nodup→(somes ds).Nodup
 | [],_,_=>yfv
 | d :: ds,h,nd=>by
  rw [yan,yb5] at nd
  show ((d.2.drop 1).map (fun c=>(d.1,c.1))++somes ds).Nodup
  rw [ydx]
  refine ⟨?_,zeP (fun e he=>h e (yap _ he)) nd.2,fun a ha b hb e => ?_⟩
  ·have n1:((d.2.drop 1).map (·.1)).Nodup:=by
    rw [yd5]
    exact (h d yat).2.2.2.2.sublist (List.drop_sublist ..)
   have e:(d.2.drop 1).map (fun c=>(d.1,c.1))=((d.2.drop 1).map (·.1)).map fun n=>(d.1,n):=by rw [ybb];rfl
   rw [e]
   exact yfS _ (fun a b z y=>z (Prod.mk.inj y).2) n1
  ·obtain ⟨q,hq,rfl⟩:=yaG.mp ha
   obtain ⟨d',hd',hm⟩:=List.mem_flatMap.mp hb
   obtain ⟨q',hq',rfl⟩:=yaG.mp hm
   exact nd.1 (yaG.mpr ⟨d',hd',(Prod.mk.inj e).1.symm⟩)
def zfe:Sp:=fun vs H Q _=>∃ (c:Int),vs = [.int c]∧∀ (r t o:Addr) (ts qs:List Addr) (tabs:List Tab) (ords:List Col) (H':Hp),Same H H'→H r=none→H t=none→H o=none→t≠o→H' r=some (.tup [.ref t,.ref o])→H' t=some (.lst (ts.map V.ref))→H' o=some (.lst (qs.map V.ref)) →
 TabsL [t,o] H' ts tabs→ColsAt H' qs ords→zcH tabs→okOrds tabs ords→Q (.ref r) H'
theorem zeR:∀ {ds:List Tab},(∀ d∈ds,okTab d.1 d.2)→(somes ds).length≤3*ds.length
 | [],_=>yag _
 | d :: ds,h=>by
  show ((d.2.drop 1).map (fun c=>(d.1,c.1))++somes ds).length≤_
  rw [yao,yaa,yaX,yal]
  have:=zeR fun e he=>h e (yap _ he)
  have:=(h d yat).2.2.1
  omega
theorem ColsAt.erase {H:Hp}:∀ {as:List Addr} {cs:List Col} (k:Nat),ColsAt H as cs→ColsAt H (as.eraseIdx k) (cs.eraseIdx k)
 | _,_,_,.nil => .nil
 | _,_,0,.cons r t=>t
 | _,_,k+1,.cons r t => .cons r (ColsAt.erase k t)
theorem TabsL.sub {ex ex':List Addr} {H:Hp} {ts:List Addr} {ds:List Tab} (h:TabsL ex H ts ds) (hx:∀ a∈ex',a∈ex∨H a=none):TabsL ex' H ts ds:=Paired.mapP h fun _ _ ⟨ca,qs,a,b,c,e⟩=>⟨ca,qs,a,b,c,fun z=>by
 rcases hx ca z with y | y
 ·exact e y
 ·rw [b] at y;cases y⟩
theorem six_nat {k n:Nat} (h:k < n):seqIndex? (k:Int) n=some k:=by
 unfold seqIndex?
 have z:¬ ((k:Int) < 0):=by omega
 simp [z,h]
theorem zhn {α β:Type} (f:α→β):∀ (l:List α) (k:Nat),(l.map f).eraseIdx k=(l.eraseIdx k).map f
 | [],_=>rfl
 | _ :: _,0=>rfl
 | a :: l,k+1=>by
  show f a :: (l.map f).eraseIdx k=f a :: (l.eraseIdx k).map f
  rw [zhn f l k]
theorem zfx {α:Type}:∀ {l:List α} {k:Nat} (h:k < l.length),(l[k] :: l.eraseIdx k).Perm l
 | [],_,h=>absurd h (ycj _)
 | _ :: _,0,_ => .refl _
 | a :: l,k+1,h=>(List.Perm.swap a _ _).trans ((zfx (l:=l) (ycN h)).cons a)
theorem ColsAt.app {H:Hp}:∀ {as bs:List Addr} {cs ds:List Col},ColsAt H as cs→ColsAt H bs ds→ColsAt H (as++bs) (cs++ds)
 | _,_,_,_,.nil,h=>h
 | _,_,_,_,.cons r t,h => .cons r (ColsAt.app t h)
section
variable {P:Program} {w:World} {K:PySem.W.Frag} {mg:Str→Option Value} {base:Heap}
theorem zfm (T:Txt K mg):FnOk P w K mg base CX0 3 T._law_schema.f T._law_schema.fd ["_law_cell_here"] zfe:=by
 have G__law_draws:FnOk P w K mg base CX0 1 T._law_draws.f T._law_draws.fd _ _:=zbY T
 have G__law_names:FnOk P w K mg base CX0 2 T._law_names.f T._law_names.fd _ _:=zdB T
 refine T._law_schema.fn.ok sc__law_schema (fun vs H Q E h => ?_) (fun cdv A outer s H vs Q E hr h => ?_)
 ·obtain ⟨c,rfl,_⟩:=h
  rfl
 ·obtain ⟨c,rfl,k⟩:=h
  have hu0:=hr.units0
  refine ⟨_,((zae (zat (i:=1) sc__law_schema.nd rfl (yaR rfl) (zam G__law_draws (hr.mono (by decide)) rfl (zaa (pv 0) (zaa zaf zad))))
   (zae (zat (i:=2) sc__law_schema.nd rfl (yaR rfl) (zaS zad))
   (zae (zat (i:=3) sc__law_schema.nd rfl (yaR rfl) (zaS zad))
   (zae (zcZ yb8 rfl (ziq (K:=K) rfl rfl T.b_enumerate (zaa (zam G__law_names (hr.mono (by decide)) rfl (zaa (pe_ix (zaj (K:=K) rfl) (pv 1) zaf (fun _ _=>rfl)) (zaa (pe_op za6 zaf (pe_op zaX (pe_ix (zaj (K:=K) rfl) (pv 1) zaf (fun _ _=>rfl)) zaf)) zad))) zad)) (zbL (K:=K) (n:=2) rfl rfl (zaC ((zal (i:=4) sc__law_schema.nd rfl (yaR rfl))) (zaC ((zal (i:=5) sc__law_schema.nd rfl (Or.inr rfl))) zbM))) (zae (zat (i:=6) sc__law_schema.nd rfl (yaR rfl) (zaS zad))
   (zae (zat (i:=7) sc__law_schema.nd rfl (yaR rfl) (zam G__law_names (hr.mono (by decide)) rfl (zaa (pe_ix (zaj (K:=K) rfl) (pv 1) (pe_op za6 zaf (pv 4)) (fun _ _=>rfl)) (zaa (pe_op za6 zaf (pe_op zaX (pe_ix (zaj (K:=K) rfl) (pv 1) (pe_op za6 zaf (pv 4)) (fun _ _=>rfl)) zaf)) zad))))
   (zae (zcZ yb8 rfl (ziq (K:=K) rfl rfl T.b_enumerate (zaa (pv 7) zad)) (zbL (K:=K) (n:=2) rfl rfl (zaC ((zal (i:=8) sc__law_schema.nd rfl (yaR rfl))) (zaC ((zal (i:=9) sc__law_schema.nd rfl (yaR rfl))) zbM))) (zah (zbp (zaY (K:=K) rfl ya8 ybE ybF zbA (pv 6) (zaa (zce (zaa (pv 9) (zaa (pe_ix (zaj (K:=K) rfl) (zaS (zaa zay (zaa zay zad))) (pe_op zaX (pe_ix (zaj (K:=K) rfl) (pv 1) (pe_op za6 (pe_op za6 zaf (pe_op zdP zaf (pv 4))) (pv 8)) (fun _ _=>rfl)) zaf) (fun _ _=>rfl)) zad))) zad)))))
   (zae (zbp (zaY (K:=K) rfl ya8 ybE ybF zbA (pv 2) (zaa (zce (zaa (pv 5) (zaa (pv 6) zad))) zad)))
   (zah (zbp (zaY (K:=K) rfl ya8 ydT ydU ze7 (pv 3) (zaa (zaR (N := ["_law_column", "_law_name"]) (own:=1) (caps := [5]) rfl (by kernel_rfl) (by kernel_rfl) (zaQ (K:=K) rfl (zax (za4 (K:=K) rfl) (pv 7) (zaB zaf) zaJ)) (fun _ _ _ _ _=>zal (i:=0) (show List.Nodup (["_law_column", "_law_name"]:List Str) by decide +kernel) rfl (yaR rfl)) (fun _ _ _ _ _=>zaM) (fun _ _ _ _ _=>(zce (zaa (pv 1) (zaa (pv 0) zad))))) zad)))))))))
   (zae (zat (i:=10) sc__law_schema.nd rfl (yaR rfl) (zaS zad))
   (zae (zcZ yb8 rfl (zcI rfl T.b_range (zaa zaf zad)) (zal (i:=4) sc__law_schema.nd rfl (yaR rfl)) (zah (ps_if (PW.pt (zg1 (zan (op_neE (K:=K) rfl hu0) (pv 3) (zaS zad) (zaA _)) (zeo (zan op_gt (pe_op zaX (pe_ix (zaj (K:=K) rfl) (pv 1) (pe_op za6 zaf (pv 4)) (fun _ _=>rfl)) zaf) zaf (zaA _))))) (zah (zbp (zaY (K:=K) rfl ya8 ybE ybF zbA (pv 10) (zaa (zaY (K:=K) rfl ya8 PySem.F.slot_list_pop PySem.F.type_list_pop mt_popAt (pv 3) (zaa (pe_op zaX (pe_op zdd (pe_ix (zaj (K:=K) rfl) (pv 1) (pe_op za6 zaf (pv 4)) (fun _ _=>rfl)) zaf) (zak (zap (K:=K) rfl) (by rfl) T.b_len za0 (zaa (pv 3) zad))) zad)) zad)))) zau)))
   (zah (zao (zce (zaa (pv 2) (zaa (pv 10) zad)))))))))))),?_⟩
  refine sq1 fun Rz1 qz1 => ?_
  refine (ea rfl ⟨_,ea rfl ⟨by decide,by decide,fun D ds H1 s1 hD hd hl hds => ?_⟩⟩)
  refine qz1 (sq1 fun Rz2 qz2 => ?_)
  refine ⟨ya2 _,fun A hA => ?_⟩
  refine qz2 (sq1 fun Rz3 qz3 => ?_)
  refine ⟨ya2 _,fun B hB => ?_⟩
  have sA:Same H1 (upd H1 A (.lst [])):=Same.new hA
  have sB:Same (upd H1 A (.lst [])) (upd (upd H1 A (.lst [])) B (.lst [])):=Same.new hB
  have hA2:=sB _ _ (zab (H:=H1) (a:=A) (o := .lst []))
  have hB2:(upd (upd H1 A (.lst [])) B (.lst [])) B=some (.lst []):=zab
  have s2:=sA.trans sB
  generalize upd (upd H1 A (.lst [])) B (.lst [])=H2 at hA2 hB2 s2 ⊢
  have nAB:A≠B:=fun e=>by rw [← e,zab] at hB;cases hB
  refine qz3 (sq1 fun Rz4 qz4 => ?_)
  refine (ea rfl (ixLc (SqL.of (s2 _ _ hd)) (zbd (by decide) (by omega)) (ea rfl (ixLc (SqL.of (s2 _ _ hd)) (zbd (by decide) (by omega)) (opJc (show (0:Int) < 4 by decide) ⟨_,ea rfl ⟨rfl,_,ea rfl ⟨?_,?_,fun N ys H3 s3 hN hNl hm hy hnd=>⟨N,rfl,⟨_,SqL.of hNl⟩,?_⟩⟩⟩⟩)))))
  ·have:=ya7 (ds.getD (1:Int).toNat 0) (by decide:(4:Int)≠0)
   omega
  ·have:=yaU (ds.getD (1:Int).toNat 0) (by decide:(0:Int) < 4)
   omega
  have m0:=ya7 (ds.getD (1:Int).toNat 0) (by decide:(4:Int)≠0)
  have m1:=yaU (ds.getD (1:Int).toNat 0) (by decide:(0:Int) < 4)
  have hnd:=hnd (by omega)
  generalize ds.getD (1:Int).toNat 0 % 4=m at m0 m1 hm
  have hd3:H3 D=some (.lst (ds.map V.int)):=s3 _ _ (s2 _ _ hd)
  have hA3:=s3 _ _ hA2
  have hB3:=s3 _ _ hB2
  have S3:Same H H3:=(s1.trans s2).trans s3
  have nDA:D≠A:=fun e=>by rw [← e,hd] at hA;cases hA
  have nDB:D≠B:=fun e=>by rw [← e,zar nDA,hd] at hB;cases hB
  have nNA:N≠A:=fun e=>by rw [e,hA2] at hN;cases hN
  have nNB:N≠B:=fun e=>by rw [e,hB2] at hN;cases hN
  have fA:H A=none:=s1.free hA
  have fB:H B=none:=(s1.trans sA).free hB
  clear hA hB sA sB hA2 hB2 s2 s1 hN s3
  refine zjj (K:=K) (a:=N) (xs:=ys.map V.str) (fun i σ H4=>∃ (v4 v5 v6 v7 v8 v9:Option V) (ts ss:List Addr) (tabs:List Tab),σ = [some (.int c),some (.ref D),some (.ref A),some (.ref B),v4,v5,v6,v7,v8,v9,none]∧Same H H4∧H4 D=some (.lst (ds.map V.int))∧H4 N=some (.lst (ys.map V.str)) ∧
   H4 A=some (.lst (ts.map V.ref))∧H4 B=some (.lst (ss.map V.ref))∧TabsL [A,B] H4 ts tabs∧ColsAt H4 ss (somes tabs)∧tabs.map (·.1)=ys.take i∧∀ d∈tabs,okTab d.1 d.2)
   ⟨none,none,none,none,none,none,[],[],[],rfl,S3,hd3,hNl,hA3,hB3,.nil,.nil,rfl,fun _ z=>nomatch z⟩ (by rintro i σ H4 _ ⟨_,_,_,_,_,_,_,_,_,_,_,_,h,_⟩;exact SqL.of h) ?_ ?_
  ·rintro i x u σ H4 hx ⟨v4,v5,v6,v7,v8,v9,ts,ss,tabs,rfl,S4,d4,n4,a4,b4,tl,sl,tn,ok⟩ hu
   have hi:i < ys.length:=by
    have:=(List.getElem?_eq_some_iff.1 hx).1
    rwa [yaa] at this
   rw [yae,yab hi] at hx
   cases hx
   refine ⟨u,ea rfl ⟨SqT.of zab,rfl,_,ea rfl ⟨_,ea rfl ⟨rfl,?_⟩⟩⟩⟩
   have s5:Same H4 (upd H4 u (.tup [.int i,.str ys[i]])):=Same.new hu
   generalize upd H4 u (.tup [.int i,.str ys[i]])=H5 at s5 ⊢
   refine sq1 fun Rz5 qz5 => ?_
   refine ⟨ya2 _,fun C hC => ?_⟩
   have s6:Same H5 (upd H5 C (.lst [])):=Same.new hC
   have c6:(upd H5 C (.lst [])) C=some (.lst []):=zab
   generalize upd H5 C (.lst [])=H6 at s6 c6 ⊢
   have d6:=s6 _ _ (s5 _ _ d4)
   refine qz5 (sq1 fun Rz6 qz6 => ?_)
   refine (ea rfl (ea rfl ⟨_,ea rfl ⟨rfl,ixL (SqL.of d6) (zbd (by omega) (by omega)) (ea rfl (ea rfl ⟨_,ea rfl ⟨rfl,ixL (SqL.of d6) (zbd (by omega) (by omega)) (opJc (show (0:Int) < 4 by decide) ⟨_,ea rfl ⟨rfl,_,ea rfl ⟨?_,?_,fun M zs H7 s7 hM hMl hm2 hz hznd => ?_⟩⟩⟩)⟩⟩))⟩⟩))
   ·have:=ya7 (ds.getD ((6:Int)+(i:Int)).toNat 0) (by decide:(4:Int)≠0)
    omega
   ·have:=yaU (ds.getD ((6:Int)+(i:Int)).toNat 0) (by decide:(0:Int) < 4)
    omega
   have q0:=ya7 (ds.getD ((6:Int)+(i:Int)).toNat 0) (by decide:(4:Int)≠0)
   have q1:=yaU (ds.getD ((6:Int)+(i:Int)).toNat 0) (by decide:(0:Int) < 4)
   have hznd:=hznd (by omega)
   generalize ds.getD ((6:Int)+(i:Int)).toNat 0 % 4=mz at q0 q1 hm2
   have nMC:M≠C:=fun e=>by rw [e,c6] at hM;cases hM
   have s7':Same H5 H7:=s6.trans s7
   refine qz6 (sq1 fun Rz7 qz7 => ?_)
   refine (ea rfl ⟨M,rfl,⟨_,SqL.of hMl⟩,?_⟩)
   refine zjj (K:=K) (a:=M) (xs:=zs.map V.str) (fun j σ H8=>∃ (v8 v9:Option V) (qs:List Addr) (cs:List Col),σ = [some (.int c),some (.ref D),some (.ref A),some (.ref B),some (.int i),some (.str ys[i]),some (.ref C),some (.ref M),v8,v9,none]∧Same H5 H8∧H8 M=some (.lst (zs.map V.str)) ∧
    H8 C=some (.lst (qs.map V.ref))∧ColsAt H8 qs cs∧cs.map (·.1)=zs.take j∧∀ q∈cs,okCol q)
    ⟨v8,v9,[],[],rfl,s7',hMl,s7 _ _ c6,.nil,rfl,fun _ z=>nomatch z⟩ (by rintro j σ H8 _ ⟨_,_,_,_,_,_,h,_⟩;exact SqL.of h) ?_ ?_
   ·rintro j x u2 σ H8 hx ⟨v8,v9,qs,cs,rfl,S8,m8,c8,cl,cn,cok⟩ hu2
    have hj:j < zs.length:=by
     have:=(List.getElem?_eq_some_iff.1 hx).1
     rwa [yaa] at this
    rw [yae,yab hj] at hx
    cases hx
    refine ⟨u2,ea rfl ⟨SqT.of zab,rfl,_,ea rfl ⟨_,ea rfl ⟨rfl,?_⟩⟩⟩⟩
    have s9:Same H8 (upd H8 u2 (.tup [.int j,.str zs[j]])):=Same.new hu2
    generalize upd H8 u2 (.tup [.int j,.str zs[j]])=H9 at s9 ⊢
    obtain ⟨vk,hat,kd,rfl,hkd⟩:=two (P:=fun v=>∃ kd:Str,v = .str kd∧(kd = "number"∨kd = "word")) (a := .str "number") (b := .str "word") (i:=ds.getD ((10:Int)+4*(i:Int)+(j:Int)).toNat 0 % 2) ⟨_,rfl,.inl rfl⟩ ⟨_,rfl,.inr rfl⟩ (ya7 _ (by decide)) (yaU _ (by decide))
    refine (ea rfl ⟨.inl ⟨rfl,_,SqL.of (s9 _ _ c8)⟩,ea rfl ⟨zac (show 2≤100000 by decide),fun p hp => ?_⟩⟩)
    have s10:Same H9 (upd H9 p (.lst [.str "number",.str "word"])):=Same.new hp
    have p10:(upd H9 p (.lst [.str "number",.str "word"])) p=some (.lst [.str "number",.str "word"]):=zab
    generalize upd H9 p (.lst [.str "number",.str "word"])=H10 at s10 p10 ⊢
    have d10:=s10 _ _ (s9 _ _ (S8 _ _ (s5 _ _ d4)))
    refine (ea rfl (ea rfl ⟨_,ea rfl ⟨rfl,.inl ⟨by decide,by decide⟩,_,ea rfl ⟨rfl,ea rfl ⟨_,ea rfl ⟨rfl,ixL (SqL.of d10) (zbd (by omega) (by omega)) (opJc (show (0:Int) < 2 by decide) (ixL (SqL.of p10) hat ⟨zac (show 2≤100000 by decide),fun t ht => ?_⟩))⟩⟩⟩⟩⟩))
    have s11:Same H10 (upd H10 t (.tup [.str zs[j],.str kd])):=Same.new ht
    have t11:(upd H10 t (.tup [.str zs[j],.str kd])) t=some (.tup (colV (zs[j],kd))):=zab
    generalize upd H10 t (.tup [.str zs[j],.str kd])=H11 at s11 t11 ⊢
    have S11:Same H8 H11:=(s9.trans s10).trans s11
    have c11:=S11 _ _ c8
    have lc:qs.length=j:=by
     have:=yaz cl
     have e2:=congrArg ycL cn
     rw [yaa,yaj] at e2
     omega
    refine ⟨_,_,ea rfl ⟨rfl,c11,?_,?_⟩⟩
    ·rw [yaa];exact zai (by omega)
    ·refine ⟨_,_,qs ++ [t],cs ++ [(zs[j],kd)],rfl,(S8.trans S11).upd hC,?_,?_,?_,?_,?_⟩
     ·rw [zar nMC];exact S11 _ _ m8
     ·rw [zab,yah];rfl
     ·exact Paired.snoc ((ColsAt.same cl S11).updL c11) (by rw [zar (fun z:t=C=>by rw [z,c11] at t11;cases t11)];exact t11)
     ·rw [yah,cn,ybc,yab hj];rfl
     ·intro q hq
      rcases ybn.mp hq with z | z
      ·exact cok q z
      ·rw [ya4.mp z]
       exact ⟨hz _ (yam hj),hkd⟩
   ·rintro σ H8 ⟨v8,v9,qs,cs,rfl,S8,m8,c8,cl,cn,cok⟩
    rw [yaa,yba] at cn
    have S48:Same H4 H8:=s5.trans S8
    have a8:=S48 _ _ a4
    have b8:=S48 _ _ b4
    have nCA:C≠A:=fun e=>by rw [e,s5 _ _ a4] at hC;cases hC
    have nCB:C≠B:=fun e=>by rw [e,s5 _ _ b4] at hC;cases hC
    have nMA:M≠A:=fun e=>by rw [e,s6 _ _ (s5 _ _ a4)] at hM;cases hM
    have nMB:M≠B:=fun e=>by rw [e,s6 _ _ (s5 _ _ b4)] at hM;cases hM
    have lt:ts.length=i:=by
     have:=yaz tl
     have e2:=congrArg ycL tn
     rw [yaa,yaj] at e2
     omega
    have lz:cs.length=zs.length:=by rw [← cn,yaa]
    refine qz7 (sq1 fun Rz8 qz8 => ?_)
    refine (ea rfl ⟨.inl ⟨rfl,_,SqL.of a8⟩,ea rfl (ea rfl ⟨zac (show 2≤100000 by decide),fun t ht => ?_⟩)⟩)
    have s9:Same H8 (upd H8 t (.tup [.str ys[i],.ref C])):=Same.new ht
    have t9:(upd H8 t (.tup [.str ys[i],.ref C])) t=some (.tup [.str ys[i],.ref C]):=zab
    generalize upd H8 t (.tup [.str ys[i],.ref C])=H9 at s9 t9 ⊢
    have a9:=s9 _ _ a8
    have S9:Same H H9:=(S4.trans S48).trans s9
    refine ⟨_,_,ea rfl ⟨rfl,a9,?_,?_⟩⟩
    ·rw [yaa];exact zai (by omega)
    have S10:Same H (upd H9 A (.lst (ts.map V.ref ++ [.ref t]))):=S9.upd fA
    have a10:(upd H9 A (.lst (ts.map V.ref ++ [.ref t]))) A=some (.lst ((ts ++ [t]).map V.ref)):=by rw [zab,yah];rfl
    have k10:∀ b o,b≠A→H9 b=some o→(upd H9 A (.lst (ts.map V.ref ++ [.ref t]))) b=some o:=fun b o hb e=>by rw [zar hb];exact e
    have c10:TabL [A,B] (upd H9 A (.lst (ts.map V.ref ++ [.ref t]))) t (ys[i],cs) :=
     ⟨C,qs,k10 _ _ (fun z=>by rw [z,a9] at t9;cases t9) t9,k10 _ _ nCA (s9 _ _ c8),(cl.same s9).updL a9,by simp [nCA,nCB]⟩
    have tl10:TabsL [A,B] (upd H9 A (.lst (ts.map V.ref ++ [.ref t]))) ts tabs:=((tl.same S48).same s9).updL a9 (by simp)
    have sl10:ColsAt (upd H9 A (.lst (ts.map V.ref ++ [.ref t]))) ss (somes tabs):=((sl.same S48).same s9).updL a9
    have b10:=k10 _ _ (yco nAB) (s9 _ _ b8)
    have d10:=k10 _ _ nDA (s9 _ _ (S48 _ _ d4))
    have n10:=k10 _ _ nNA (s9 _ _ (S48 _ _ n4))
    have m10:=k10 _ _ nMA (s9 _ _ m8)
    generalize upd H9 A (.lst (ts.map V.ref ++ [.ref t]))=H10 at S10 a10 k10 c10 tl10 sl10 b10 d10 n10 m10 ⊢
    obtain ⟨cut,_⟩:=cut_one (xs:=zs.map V.str) (by rw [yaa];omega)
    refine qz8 ?_
    refine (ea rfl ⟨.inl ⟨rfl,_,SqL.of b10⟩,ea rfl (ea rfl ⟨M,ea rfl ⟨SqL.of m10,fun p hp=>⟨p,rfl,⟨_,SqL.of zab⟩,fun E' hE => ?_⟩⟩⟩)⟩)
    rw [cut] at hE ⊢
    have s11:Same H10 (upd H10 p (.lst ((zs.map V.str).drop 1))):=Same.new hp
    have p11:(upd H10 p (.lst ((zs.map V.str).drop 1))) p=some (.lst ((zs.drop 1).map V.str)):=by rw [zab,yd5]
    generalize upd H10 p (.lst ((zs.map V.str).drop 1))=H11 at s11 p11 hE ⊢
    refine zaz (J:=Itl K p) (zs.drop 1).length (fun j τ H12=>∃ (v:Option V) (es:List Addr),τ = [v,some (.str ys[i])]∧Same H11 H12∧H12 E'=some (.lst (es.map V.ref))∧ColsAt H12 es (((zs.drop 1).take j).map fun n=>(ys[i],n)))
     ⟨none,[],rfl,Same.new hE,zab,.nil⟩
     (fun j τ H12 hj ⟨_,_,_,sm,_⟩=>⟨_,.str (zs.drop 1)[j],SqL.of (sm _ _ p11),by rw [yae,yab hj];rfl⟩)
     (by rintro τ H12 ⟨_,_,_,sm,_⟩;exact ⟨_,SqL.of (sm _ _ p11),by rw [yaa];exact yag _⟩) ?_ ?_
    ·rintro j τ H12 y H13 hj ⟨v,es,rfl,sm,he,hc⟩ ⟨rfl,hy'⟩
     have ey:=hy' _ (SqL.of (sm _ _ p11))
     rw [yae,yab hj] at ey
     cases ey
     have le:es.length=j:=by
      have:=yaz hc
      rw [yaa,yaj] at this
      omega
     have lj:(zs.drop 1).length≤4:=by rw [yaX];omega
     refine (ea rfl (ea rfl ⟨zac (show 2≤100000 by decide),fun t2 ht2 => ?_⟩))
     have s14:Same H13 (upd H13 t2 (.tup [.str ys[i],.str (zs.drop 1)[j]])):=Same.new ht2
     have t14:(upd H13 t2 (.tup [.str ys[i],.str (zs.drop 1)[j]])) t2=some (.tup (colV (ys[i],(zs.drop 1)[j]))):=zab
     generalize upd H13 t2 (.tup [.str ys[i],.str (zs.drop 1)[j]])=H14 at s14 t14 ⊢
     have e14:=s14 _ _ he
     refine ⟨_,e14,?_,_,es ++ [t2],rfl,(sm.trans s14).upd hE,by rw [zab,yah];rfl,?_⟩
     ·rw [yaa];exact zai (by omega)
     ·rw [ybc,yab hj,yah]
      exact Paired.snoc ((ColsAt.same hc s14).updL e14) (by rw [zar (fun z:t2=E'=>by rw [z,e14] at t14;cases t14)];exact t14)
    ·rintro τ H12 ⟨v,es,rfl,sm,he,hc⟩
     rw [yba] at hc
     have S12:Same H10 H12:=s11.trans sm
     have b12:=S12 _ _ b10
     have le:es.length≤4:=by
      have:=yaz hc
      rw [yaa,yaX] at this
      omega
     refine ⟨_,_,_,ea rfl ⟨rfl,b12,he,?_,?_⟩⟩
     ·have:=yaz sl
      have:=zeR ok
      have:=yaz tl
      rw [yaa,yaa]
      exact zac (by omega)
     ·refine ⟨_,_,_,_,_,_,ts ++ [t],ss++es,tabs ++ [(ys[i],cs)],rfl,(S10.trans S12).upd fB,?_,?_,?_,?_,?_,?_,?_,?_⟩
      ·rw [zar nDB];exact S12 _ _ d10
      ·rw [zar nNB];exact S12 _ _ n10
      ·rw [zar nAB];exact S12 _ _ a10
      ·rw [zab,yah]
      ·exact Paired.snoc ((tl10.same S12).updL b12 (by simp)) ((c10.same S12).updL b12 (by simp))
      ·rw [zjA]
       have e:(cs.drop 1).map (fun c=>(ys[i],c.1))=(zs.drop 1).map fun n=>(ys[i],n):=by
        rw [← cn,← yd5,ybb]
        rfl
       show ColsAt _ _ (somes tabs++(cs.drop 1).map fun c=>(ys[i],c.1))
       rw [e]
       exact ((sl10.same S12).updL b12).app (hc.updL b12)
      ·rw [yah,tn,ybc,yab hi];rfl
      ·intro d hd'
       rcases ybn.mp hd' with z | z
       ·exact ok d z
       ·rw [ya4.mp z]
        exact ⟨hy _ (yam hi),by show 1≤cs.length;omega,by show cs.length≤4;omega,cok,cn ▸ hznd⟩
  ·rintro σ H4 ⟨v4,v5,v6,v7,v8,v9,ts,ss,tabs,rfl,S4,d4,n4,a4,b4,tl,sl,tn,ok⟩
   rw [yaa,yba] at tn
   have ltb:tabs.length=ys.length:=by rw [← tn,yaa]
   have oks:zcH tabs:=⟨by omega,by omega,ok,tn ▸ hnd⟩
   refine qz4 (sq1 fun Rz9 qz9 => ?_)
   refine ⟨ya2 _,fun O hO => ?_⟩
   have s5:Same H4 (upd H4 O (.lst [])):=Same.new hO
   have o5:(upd H4 O (.lst [])) O=some (.lst []):=zab
   have tl5:TabsL [A,B,O] (upd H4 O (.lst [])) ts tabs:=(tl.sub (ex' := [A,B,O]) (fun b hb=>by
    have e':b=A∨b=B∨b=O:=by simpa using hb
    rcases e' with e' | e' | e'
    ·exact .inl (by simp [e'])
    ·exact .inl (by simp [e'])
    ·exact .inr (e' ▸ hO))).same s5
   generalize upd H4 O (.lst [])=H5 at s5 o5 tl5 ⊢
   have nAO:A≠O:=fun e=>by rw [← e,a4] at hO;cases hO
   have nBO:B≠O:=fun e=>by rw [← e,b4] at hO;cases hO
   have nDO:D≠O:=fun e=>by rw [← e,d4] at hO;cases hO
   have fO:H O=none:=S4.free hO
   refine qz9 (sq1 fun Rz10 qz10 => ?_)
   refine ⟨_,rfl,by decide,by decide,zdy (lo:=0) (n:=4) (fun i σ H6=>∃ (v4:Option V) (ss os:List Addr) (som ords:List Col),σ = [some (.int c),some (.ref D),some (.ref A),some (.ref B),v4,v5,v6,v7,v8,v9,some (.ref O)]∧Same H H6∧H6 D=some (.lst (ds.map V.int)) ∧
    H6 A=some (.lst (ts.map V.ref))∧H6 B=some (.lst (ss.map V.ref))∧H6 O=some (.lst (os.map V.ref))∧TabsL [A,B,O] H6 ts tabs∧ColsAt H6 ss som∧ColsAt H6 os ords∧(ords++som).Perm (somes tabs)∧ords.length≤i)
    ⟨v4,ss,[],somes tabs,[],rfl,S4.trans s5,s5 _ _ d4,s5 _ _ a4,s5 _ _ b4,o5,tl5,sl.same s5,.nil,.refl _,yag _⟩ ?_ ?_⟩
   ·rintro i σ H6 hi ⟨v4,ss,os,som,ords,rfl,S6,d6,a6,b6,o6,tl6,sl6,ol6,pm,lo⟩
    have lss:=yaz sl6
    refine (ea rfl ⟨ya2 _,fun p hp => ?_⟩)
    have s7:Same H6 (upd H6 p (.lst [])):=Same.new hp
    have p7:(upd H6 p (.lst [])) p=some (.lst []):=zab
    generalize upd H6 p (.lst [])=H7 at s7 p7 ⊢
    have stay:∀ v:Option V,∃ (v4:Option V) (ss os:List Addr) (som ords:List Col),[some (.int c),some (.ref D),some (.ref A),some (.ref B),v,v5,v6,v7,v8,v9,some (.ref O)] = [some (.int c),some (.ref D),some (.ref A),some (.ref B),v4,v5,v6,v7,v8,v9,some (.ref O)]∧Same H H7∧H7 D=some (.lst (ds.map V.int)) ∧
     H7 A=some (.lst (ts.map V.ref))∧H7 B=some (.lst (ss.map V.ref))∧H7 O=some (.lst (os.map V.ref))∧TabsL [A,B,O] H7 ts tabs∧ColsAt H7 ss som∧ColsAt H7 os ords∧(ords++som).Perm (somes tabs)∧ords.length≤i+1 :=
     fun v=>⟨v,ss,os,som,ords,rfl,S6.trans s7,s7 _ _ d6,s7 _ _ a6,s7 _ _ b6,s7 _ _ o6,tl6.same s7,sl6.same s7,ol6.same s7,pm,by omega⟩
    refine ⟨B,p,ea rfl ⟨rfl,SqL.of (s7 _ _ b6),SqL.of p7,ea rfl (ite2 (fun ne => ?_) (fun _ => ?_))⟩⟩
    ·have hss:0 < ss.length:=by
      cases ss with
      | nil=>exact absurd ne (by decide)
      | cons _ _=>simp
     refine (ea rfl (ea rfl ⟨_,ea rfl ⟨rfl,ixL (SqL.of (s7 _ _ d6)) (zbd (by omega) (by omega)) (opJc (show (0:Int) < 3 by decide) ⟨_,ea rfl ⟨rfl,ea rfl (ite2 (fun _ => ?_) (fun _ => ?_))⟩⟩)⟩⟩))
     ·refine (ea rfl ⟨.inl ⟨rfl,_,SqL.of (s7 _ _ o6)⟩,ea rfl ⟨.inl ⟨rfl,_,SqL.of (s7 _ _ b6)⟩,ea rfl (ea rfl ⟨_,ea rfl ⟨rfl,ixL (SqL.of (s7 _ _ d6)) (zbd (by omega) (by omega)) ⟨_,ea rfl ⟨rfl,⟨(show (0:Int) < 3 by decide),(show (3:Int) < 2 ^ 64 by decide)⟩,ea rfl ⟨_,ea rfl ⟨.inl (SqL.of (s7 _ _ b6)),_,ea rfl ⟨rfl,?_,?_⟩⟩⟩⟩⟩⟩⟩)⟩⟩)
      ·rw [yaa]
       exact Int.ofNat_lt.mpr hss
      ·dsimp only
       generalize ds.getD ((26:Int)+(0+(i:Int))).toNat 0 / 3=x
       rw [yaa]
       have e0:=ya7 x (show (ss.length:Int)≠0 by omega)
       have e1:=yaU x (show (0:Int) < ss.length by omega)
       generalize x % (ss.length:Int)=y at e0 e1 ⊢
       obtain ⟨kk,rfl⟩:=Int.eq_ofNat_of_zero_le e0
       have hk:kk < ss.length:=by omega
       have hk2:kk < som.length:=by omega
       have l12:ss.length≤12:=by
        have:=pm.length_eq
        rw [yao] at this
        have:=zeR ok
        omega
       have b7:=s7 _ _ b6
       have o7:=s7 _ _ o6
       refine ⟨B,_,_,kk,.ref ss[kk],rfl,rfl,b7,by omega,by omega,six_nat (by rw [yaa];exact hk),by rw [yae,yab hk];rfl,?_⟩
       have k8:∀ b o,b≠B→H7 b=some o→(upd H7 B (.lst ((ss.map V.ref).eraseIdx kk))) b=some o:=fun b o hb e=>by rw [zar hb];exact e
       have b8:(upd H7 B (.lst ((ss.map V.ref).eraseIdx kk))) B=some (.lst ((ss.eraseIdx kk).map V.ref)):=by rw [zab,zhn]
       have S8:Same H (upd H7 B (.lst ((ss.map V.ref).eraseIdx kk))):=(S6.trans s7).upd fB
       have tl8:TabsL [A,B,O] (upd H7 B (.lst ((ss.map V.ref).eraseIdx kk))) ts tabs:=(tl6.same s7).updL b7 (by simp)
       have sl8:ColsAt (upd H7 B (.lst ((ss.map V.ref).eraseIdx kk))) ss som:=(sl6.same s7).updL b7
       have ol8:ColsAt (upd H7 B (.lst ((ss.map V.ref).eraseIdx kk))) os ords:=(ol6.same s7).updL b7
       have d8:=k8 _ _ nDB (s7 _ _ d6)
       have a8:=k8 _ _ nAB (s7 _ _ a6)
       have o8:=k8 _ _ (yco nBO) o7
       generalize upd H7 B (.lst ((ss.map V.ref).eraseIdx kk))=H8 at k8 b8 S8 tl8 sl8 ol8 d8 a8 o8 ⊢
       have lo2:=yaz ol8
       refine ⟨_,_,ea rfl ⟨rfl,o8,?_,?_⟩⟩
       ·rw [yaa];exact zai (by omega)
       ·refine ⟨_,ss.eraseIdx kk,os ++ [ss[kk]],som.eraseIdx kk,ords ++ [som[kk]],rfl,S8.upd fO,?_,?_,?_,?_,tl8.updL o8 (by simp),(ColsAt.erase kk sl8).updL o8,?_,?_,?_⟩
        ·rw [zar nDO];exact d8
        ·rw [zar nAO];exact a8
        ·rw [zar nBO];exact b8
        ·rw [zab,yah];rfl
        ·exact Paired.snoc (ol8.updL o8) (Paired.at (sl8.updL o8) kk hk hk2)
        ·refine List.Perm.trans ?_ pm
         rw [ych]
         exact List.Perm.append_left _ (zfx hk2)
        ·rw [yao,ydl];omega
     ·exact stay _
    ·exact stay _
   ·rintro σ H6 ⟨v4,ss,os,som,ords,rfl,S6,d6,a6,b6,o6,tl6,sl6,ol6,pm,lo⟩
    have ndS:=zeP ok (tn ▸ hnd)
    have nd:=(ydx.mp (pm.nodup_iff.mpr ndS)).1
    refine qz10 ?_
    refine (ea rfl (ea rfl ⟨zac (show 2≤100000 by decide),fun r hr' => ?_⟩))
    have s7:Same H6 (upd H6 r (.tup [.ref A,.ref O])):=Same.new hr'
    exact k r A O ts os tabs ords _ (S6.trans s7) (S6.free hr') fA fO nAO zab (s7 _ _ a6) (s7 _ _ o6) ((tl6.sub fun b hb => .inl (by
     have e':b=A∨b=O:=by simpa using hb
     rcases e' with e' | e' <;> simp [e'])).same s7) (ol6.same s7) oks ⟨lo,nd,fun q hq=>somes_ok ok q (pm.subset (ydA _ hq))⟩
end
def zhQ:Sp:=fun vs H Q _=>∃ (a b:Addr) (qs:List Addr) (cs:List Col) (ds:List Int),vs = [.ref a,.ref b]∧H a=some (.lst (qs.map V.ref))∧ColsAt H qs cs∧(∀ q∈cs,okCol q)∧cs.length≤4∧H b=some (.lst (ds.map V.int))∧ds.length=4∧Draws ds ∧
 ∀ (r:Addr) (ys:List V) (H':Hp),Same H H'→H r=none→H' r=some (.tup ys)→ys.length=cs.length→(∀ p∈cs.zip ys,isVal p.1.2 p.2=true)→Q (.ref r) H'
section
variable {P:Program} {w:World} {K:PySem.W.Frag} {mg:Str→Option Value} {base:Heap}
theorem zev (T:Txt K mg):FnOk P w K mg base CX0 4 T._law_row.f T._law_row.fd ["_law_columns", "_law_draws_here"] zhQ:=by
 have G__law_value:FnOk P w K mg base CX0 3 T._law_value.f T._law_value.fd _ _:=zgj T
 refine T._law_row.fn.ok zhW (fun vs H Q E h => ?_) (fun cdv A outer s H vs Q E hr h => ?_)
 ·obtain ⟨a,b,qs,cs,ds,rfl,_⟩:=h
  rfl
 ·obtain ⟨a,b,qs,cs,ds,rfl,ha,hc,okc,h4,hb,l4,hds,k⟩:=h
  have lq:=yaz hc
  refine ⟨_,((zah (zao (zav (zbl (K:=K) rfl) (by rfl) T.b_tuple zbT (zaa (zaR (N := ["_law_k", "_law_name", "_law_kind", "_law_draws_here"]) (own:=3) (caps := [1]) rfl (by kernel_rfl) (by kernel_rfl) (ziq (K:=K) rfl rfl T.b_enumerate (zaa (pv 0) zad)) (fun _ _ _ _ _=>(zbL (K:=K) (n:=2) rfl rfl (zaC (zal (i:=0) (show List.Nodup (["_law_k", "_law_name", "_law_kind", "_law_draws_here"]:List Str) by decide +kernel) rfl (yaR rfl)) (zaC ((zbL (K:=K) (n:=2) rfl rfl (zaC (zal (i:=1) (show List.Nodup (["_law_k", "_law_name", "_law_kind", "_law_draws_here"]:List Str) by decide +kernel) rfl (yaR rfl)) (zaC (zal (i:=2) (show List.Nodup (["_law_k", "_law_name", "_law_kind", "_law_draws_here"]:List Str) by decide +kernel) rfl (yaR rfl)) zbM)))) zbM)))) (fun _ _ _ _ _=>zaM) (fun _ _ _ _ _=>(zam G__law_value (hr.mono (by decide)) rfl (zaa (pv 2) (zaa (pe_ix (zaj (K:=K) rfl) (pv 3) (pv 0) (fun _ _=>rfl)) zad))))) zad))))),?_⟩
  refine (ea rfl ⟨a,rfl,⟨_,SqL.of ha⟩,fun D hD => ?_⟩)
  refine zaz (J:=Ite K a) qs.length (fun j τ H2=>∃ (v0 v1 v2:Option V) (ys:List V),τ = [v0,v1,v2,some (.ref b)]∧Same H H2∧H2 D=some (.lst ys)∧ys.length=j∧∀ p∈(cs.take j).zip ys,isVal p.1.2 p.2=true)
   ⟨none,none,none,[],rfl,Same.new hD,zab,rfl,fun _ z=>nomatch z⟩
   (fun j τ H2 hj ⟨_,_,_,_,_,sm,_⟩=>⟨_,.ref qs[j],SqL.of (sm _ _ ha),by rw [yae,yab hj];rfl⟩)
   (by rintro τ H2 ⟨_,_,_,_,_,sm,_⟩;exact ⟨_,SqL.of (sm _ _ ha),by rw [yaa];exact yag _⟩) ?_ ?_
  ·rintro j τ H2 x H3 hj ⟨v0,v1,v2,ys,rfl,sm,hd,hl,hy⟩ ⟨u,y,hu,rfl,rfl,hx⟩
   have ex:=hx _ (SqL.of (sm _ _ ha))
   rw [yae,yab hj] at ex
   cases ex
   have hj2:j < cs.length:=by omega
   have s3:Same H2 (upd H2 u (.tup [.int j,.ref qs[j]])):=Same.new hu
   have okq:=okc _ (yam hj2)
   have dj:=hds.at (j:=((j:Int)).toNat) (by omega)
   refine ⟨u,ea rfl ⟨SqT.of zab,rfl,_,ea rfl ⟨_,ea rfl ⟨qs[j],ea rfl ⟨SqT.of (s3 _ _ (sm _ _ (Paired.at hc j hj hj2))),rfl,_,ea rfl ⟨_,ea rfl ⟨rfl,rfl,?_⟩⟩⟩⟩⟩⟩⟩
   refine (ea rfl (ea rfl (ea rfl (ixL (SqL.of (s3 _ _ (sm _ _ hb))) (zbd (by omega) (by omega)) ⟨_,ea rfl ⟨okq.2,dj.1,dj.2,fun v H5 s5 hv => ?_⟩⟩))))
   have S5:Same H2 H5:=s3.trans s5
   refine ⟨_,S5 _ _ hd,zai (by omega),_,_,_,ys ++ [v],rfl,(sm.trans S5).upd hD,zab,by simp [hl],?_⟩
   rw [ybc,yab hj2]
   show ∀ p∈(cs.take j ++ [cs[j]]).zip (ys ++ [v]),_
   rw [List.zip_append (by rw [yaj];omega)]
   intro p hp
   rcases ybn.mp hp with z | z
   ·exact hy p z
   ·have e:p=(cs[j],v):=by simpa using z
    rw [e]
    exact hv
  ·rintro τ H2 ⟨v0,v1,v2,ys,rfl,sm,hd,hl,hy⟩
   rw [yaA (by omega)] at hy
   refine ⟨D,ys,rfl,.inl ⟨SqL.of hd,fun l hl' => ?_⟩⟩
   exact k l ys _ (sm.trans (Same.new hl')) (sm.free hl') zab (by omega) hy
end
theorem zdY (a b:Str):(a++b).cps.toList=a.cps.toList++b.cps.toList:=by rw [Str.cps_append,Array.toList_append]
theorem zee (x y:Str):yaV x y ≠ []:=by
 unfold yaV
 split
 ·simp
 ·split
  ·simp
  ·intro e
   have:=congrArg ycL e
   rw [length_partsBetween] at this
   exact absurd this (by simp)
theorem slice_to {x:Str} {j:Int} (h0:0≤j) (h1:j≤x.length):(ya3 x none (some j)).cps.toList=x.cps.toList.take j.toNat:=by
 have e:ya3 x none (some j)=ydy x none (some j):=rfl
 rw [e,StrLaws.sliceText_to ⟨h0,by rw [zcf];exact h1⟩,yfw,Int.sub_zero]
theorem ziX {xs:List V} {k:Nat} (h:k≤xs.length):cutV xs (some (k:Int)) none=xs.drop k:=by
 unfold cutV
 have e2:HT.sIx xs.length xs.length none=xs.length:=rfl
 rw [HT.sIx_nat,e2,Nat.min_eq_left h,yaA (by rw [yaX];exact yag _)]
theorem zdt {tabs:List Tab} (nd:(tabs.map (·.1)).Nodup) {k:Nat} (hk:k < tabs.length):tabs.find? (fun d=>decide (d.1=tabs[k].1))=some tabs[k]:=by
 induction tabs generalizing k with
 | nil=>exact absurd hk (ycj _)
 | cons d ds ih =>
  rw [yan,yb5] at nd
  cases k with
  | zero=>exact List.find?_cons_of_pos (decide_eq_true rfl)
  | succ k =>
   have hk':k < ds.length:=ycN hk
   show List.find? (fun e:Tab=>decide (e.1=ds[k].1)) (d :: ds)=some ds[k]
   rw [List.find?_cons_of_neg]
   ·exact ih nd.2 hk'
   ·intro z
    exact nd.1 (yaG.mpr ⟨ds[k],yam hk',(of_decide_eq_true z).symm⟩)
theorem find_no {tabs:List Tab} {t:Str} (h:t∉tabs.map (·.1)):tabs.find? (fun d=>decide (d.1=t))=none:=by
 rw [List.find?_eq_none]
 intro d hd z
 exact h (yaG.mpr ⟨d,hd,of_decide_eq_true z⟩)
theorem SchemaAt.obj {C:Addr} {H:Hp} {p:Addr} {tabs:List Tab} {ords:List Col} (h:SchemaAt C H p tabs ords):∃ dx tt oo dd,H p=some (.ins C dx (scF tt oo dd)):=let ⟨dx,tt,oo,dd,_,_,_,_,a,_⟩:=h.ex;⟨dx,tt,oo,dd,a⟩
theorem ziT {m:Str} (tt oo dd:Addr) (h:m ≠ "tables"∧m ≠ "orders"∧m ≠ "columns"):(scF tt oo dd).lookup m=none:=by
 unfold scF
 rw [ybm,beq_eq_false_iff_ne.mpr h.1]
 dsimp only
 rw [ybm,beq_eq_false_iff_ne.mpr h.2.1]
 dsimp only
 rw [ybm,beq_eq_false_iff_ne.mpr h.2.2]
 rfl
theorem no_cols (tt oo dd:Addr):(scF tt oo dd).lookup ("columns_of" : Str)=none:=ziT tt oo dd (by decide +kernel)
theorem no_names (tt oo dd:Addr):(scF tt oo dd).lookup ("table_names" : Str)=none:=ziT tt oo dd (by decide +kernel)
theorem zdM (l:List Str):(l.map V.str).all flatV=true:=by
 rw [ycw]
 exact yaP.mpr fun _ _=>rfl
theorem at0 {x:Str} {xs:List Str}:atI ((x :: xs).map V.str) 0=some (.str x):=zcR (by decide) rfl
theorem at1 {x y:Str} {xs:List Str}:atI ((x :: y :: xs).map V.str) 1=some (.str y):=zcR (by decide) rfl
theorem zeU {i:Int} (h0 : -1000000000≤i) (h1:i≤1000000000):numIn (zaL i)=some i:=by
 rw [zhN]
 by_cases hi:i < 0
 ·obtain ⟨m,rfl⟩:∃ m:Nat,i = -((m:Nat):Int):=⟨i.natAbs,by omega⟩
  have hm:0 < m:=by omega
  have ef:figs (zaL (-((m:Nat):Int)))=digs m:=by
   rw [zbq m hm]
   exact if_pos (by rfl)
  have es:∀ v,sgn (zaL (-((m:Nat):Int))) v = -((v:Nat):Int):=fun v=>by
   rw [zbq m hm];unfold sgn;rw [if_pos (by rfl)]
  have hne:zaL (-((m:Nat):Int)) ≠ [45,48]:=by
   rw [zbq m hm]
   intro e
   have e2:digs m=digs 0:=by rw [zbB];exact (ybY e).2
   have:=congrArg yaY e2
   rw [val_back,val_back] at this
   omega
  unfold plain
  rw [ef,es,val_back,if_pos ⟨zh0 m,zei m⟩,if_pos ⟨ya1 (zdv (by omega)) (by decide),rfl,hne⟩,if_pos ⟨h0,h1⟩]
 ·obtain ⟨m,rfl⟩:∃ m:Nat,i=((m:Nat):Int):=⟨i.natAbs,by omega⟩
  have ef:figs (zaL ((m:Nat):Int))=digs m:=by
   rw [zbw]
   exact if_neg (by rw [zex];decide)
  have es:∀ v,sgn (zaL ((m:Nat):Int)) v=((v:Nat):Int):=fun v=>by
   rw [zbw];unfold sgn;rw [if_neg (by rw [zex];decide)]
  have hne:zaL ((m:Nat):Int) ≠ [45,48]:=by
   rw [zbw]
   intro e
   have:=zex m
   rw [e] at this
   cases this
  unfold plain
  rw [ef,es,val_back,if_pos ⟨zh0 m,zei m⟩,if_pos ⟨ya1 (zdv (by omega)) (by decide),rfl,hne⟩,if_pos ⟨h0,h1⟩]
def jc:List (List Nat)→List Nat
 | [] => []
 | [x]=>x
 | x :: y :: r=>x++32 :: jc (y :: r)
theorem blank:(" " : Str) = ⟨#[32]⟩:=by decide +kernel
theorem semi:(";" : Str) = ⟨#[59]⟩:=by decide +kernel
theorem zjG:∀ ys:List Str,(ybG " " ys).cps.toList=jc (ys.map (·.cps.toList)):=fun ys=>by
 show (Builtin.Str.glued " " ys).cps.toList=_
 rw [ydq]
 induction ys with
 | nil=>rfl
 | cons x r ih =>
  cases r with
  | nil=>rfl
  | cons y r =>
   show (x ++ " " ++ Str.join " " (y :: r)).cps.toList=x.cps.toList++32 :: jc ((y :: r).map (·.cps.toList))
   rw [zdY,zdY,ih,ych]
   rfl
theorem tw_free {x:List Nat} (h:32∉x) (r:List Nat):(x++32 :: r).takeWhile (fun c=>decide (c≠32))=x:=by
 induction x with
 | nil=>simp
 | cons c x ih =>
  have hc:c≠32:=fun e=>h (by rw [e];exact yat)
  rw [List.cons_append,List.takeWhile_cons_of_pos (by simpa using hc),ih fun z=>h (yap _ z)]
theorem jc_inj:∀ {xs ys:List (List Nat)},xs ≠ []→ys ≠ []→(∀ x∈xs,32∉x)→(∀ y∈ys,32∉y)→jc xs=jc ys→xs=ys
 | [],_,h,_,_,_,_=>absurd rfl h
 | _ :: _,[],_,h,_,_,_=>absurd rfl h
 | [x],[y],_,_,_,_,e=>congrArg (fun z => [z]) e
 | [x],y :: y2 :: r,_,_,hx,_,e=>by
  exfalso
  have e:x=y++32 :: jc (y2 :: r):=e
  exact hx x yat (by rw [e];simp)
 | x :: x2 :: r,[y],_,_,_,hy,e=>by
  exfalso
  have e:x++32 :: jc (x2 :: r)=y:=e
  exact hy y yat (by rw [← e];simp)
 | x :: x2 :: r,y :: y2 :: q,_,_,hx,hy,e=>by
  have e:x++32 :: jc (x2 :: r)=y++32 :: jc (y2 :: q):=e
  have e1:=congrArg (List.takeWhile (fun c=>decide (c≠32))) e
  rw [tw_free (hx x yat),tw_free (hy y yat)] at e1
  subst e1
  have e2:=List.append_cancel_left e
  injection e2 with _ e2
  rw [jc_inj (by simp) (by simp) (fun z hz=>hx z (yap _ hz)) (fun z hz=>hy z (yap _ hz)) e2]
theorem zdp:∀ {xs ys:List Str},xs.map (·.cps.toList)=ys.map (·.cps.toList)→xs=ys
 | [],[],_=>rfl
 | [],_ :: _,h=>nomatch h
 | _ :: _,[],h=>nomatch h
 | x :: xs,y :: ys,h=>by
  rw [yan,yan] at h
  injection h with h1 h2
  rw [zcp h1,zdp h2]
def free (x:Str):Prop:=32∉x.cps.toList∧59∉x.cps.toList
theorem zfL {ws:List Str} (hn:ws ≠ []) (h:∀ x∈ws,32∉x.cps.toList):yaV (ybG " " ws) " " = ws:=by
 have e:ybG " " (yaV (ybG " " ws) " ")=ybG " " ws:=by
  show Builtin.Str.glued " " _=_
  rw [ydq,StrLaws.join_split]
 have e2:=congrArg (fun s:Str=>s.cps.toList) e
 simp only [zjG] at e2
 refine zdp (jc_inj (by simpa using zee _ _) (by simpa using hn) ?_ ?_ e2)
 ·intro x hx
  obtain ⟨y,hy,rfl⟩:=yaG.mp hx
  have:=StrLaws.split_free (ybG " " ws) 32
  rw [← blank] at this
  exact this y hy
 ·intro x hx
  obtain ⟨y,hy,rfl⟩:=yaG.mp hx
  exact h y hy
theorem zeA (x:Str):ycG x ";" = true↔∃ l,x.cps.toList=l ++ [59]:=by
 unfold ycG
 rw [semi,yaL,decide_eq_true_eq]
 have l1:(⟨#[59]⟩:Str).length=1:=rfl
 have so:=StrLaws.subAt_one x 59 (x.length - 1)
 rw [l1] at so ⊢
 have hl:=zcf x
 constructor
 ·rintro ⟨h1,h2⟩
  have h2:=so.mp ⟨by omega,h2⟩
  have h3:0 < x.cps.toList.length:=by omega
  have e:=yeM (List.ne_nil_of_length_pos h3)
  refine ⟨x.cps.toList.dropLast,?_⟩
  have h4:x.cps.toList.getLast (List.ne_nil_of_length_pos h3)=59:=by
   rw [List.getLast_eq_getElem]
   have h5:x.cps.toList[x.cps.toList.length - 1]? = some 59:=by rw [hl];exact h2
   rw [yab (by omega)] at h5
   exact yas h5
  rw [h4] at e
  exact e.symm
 ·rintro ⟨l,e⟩
  have e2:=congrArg ycL e
  rw [yao,ydl] at e2
  refine ⟨by omega,(so.mpr ?_).2⟩
  rw [e,ybJ (by omega)]
  have:x.length - 1 - l.length=0:=by omega
  rw [this]
  rfl
theorem zjm {x:Str} {l:List Nat} (h:x.cps.toList=l ++ [59]):(ya3 x none (some (-1))).cps.toList=l:=by
 have hl:=zcf x
 have e2:=congrArg ycL h
 rw [yao,ydl] at e2
 have e:ya3 x none (some (-1))=ya3 x none (some ((l.length:Nat):Int)):=by
  show ydy x none (some (-1))=ydy x none (some ((l.length:Nat):Int))
  unfold ydy
  have:ydr none (some (-1)) 1 x.length=ydr none (some ((l.length:Nat):Int)) 1 x.length:=by
   have hx:x.length=l.length+1:=by omega
   rw [hx]
   have h1:((-1:Int)+((l.length+1:Nat):Int))=(l.length:Int):=by omega
   have h2:¬ ((l.length:Int) < 0):=by omega
   simp only [ydr,h1,h2,if_false,show ((-1:Int) < 0)=True from by simp,if_true]
  rw [this]
 rw [e,slice_to (by omega) (by omega),h]
 simp
theorem zjk {x:Str} (h:x.cps.toList.all isLow=true):free x:=by
 have key:∀ c∈x.cps.toList,97≤c:=fun c hc=>by
  have:=yaP.mp h c hc
  unfold isLow at this
  rw [yaL,decide_eq_true_eq] at this
  exact this.1
 exact ⟨fun z=>by have:=key _ z;omega,fun z=>by have:=key _ z;omega⟩
theorem ziy {x:Str} (h:isNm x=true):x.cps.toList.all isLow=true:=by
 unfold isNm at h
 rw [yaL] at h
 exact h.2
theorem zh1 {x:Str} (h:isNm x=true):x.length≤8:=by
 unfold isNm at h
 rw [yaL,yaL] at h
 exact of_decide_eq_true h.1.2
theorem zfT (i:Int):free (strV (.int i)):=by
 have key:∀ c∈(strV (.int i)).cps.toList,c=45∨(48≤c∧c≤57):=fun c hc=>by
  rw [zbC] at hc
  have dd:∀ c∈digs i.natAbs,48≤c∧c≤57:=fun c hc=>by
   have:=yaP.mp (zei i.natAbs) c hc
   unfold isDig at this
   rw [yaL,decide_eq_true_eq,decide_eq_true_eq] at this
   exact this
  unfold zaL at hc
  split at hc
  ·rcases yaN.mp hc with z | z
   ·exact .inl z
   ·exact .inr (dd c z)
  ·exact .inr (dd c hc)
 exact ⟨fun z=>by have:=key _ z;omega,fun z=>by have:=key _ z;omega⟩
theorem ze9 {i:Int} (h0 : -1000000000≤i) (h1:i≤1000000000):(strV (.int i)).length≤11:=by
 rw [← zcf,zbC]
 have:=zdv (n:=i.natAbs) (by omega)
 unfold zaL
 split
 ·rw [yal];omega
 ·omega
theorem zcs {k:Str} {v:V} (h:isVal k v=true):(∃ i:Int,v = .int i ∧ -1000000000≤i∧i≤1000000000)∨∃ x,v = .str x∧isNm x=true:=by
 unfold isVal at h
 split at h
 ·cases v with
  | int i =>
   simp only [isNum,yaL,decide_eq_true_eq] at h
   exact .inl ⟨i,rfl,h⟩
  | _=>exact absurd h (by simp [isNum])
 ·cases v with
  | str x=>exact .inr ⟨x,rfl,h⟩
  | _=>exact absurd h (by simp [zez])
theorem zf0 {k:Str} {v:V} (h:isVal k v=true):free (strV v)∧(strV v).length≤11:=by
 rcases zcs h with ⟨i,rfl,h0,h1⟩ | ⟨x,rfl,hx⟩
 ·exact ⟨zfT i,ze9 h0 h1⟩
 ·have:=zh1 hx
  exact ⟨zjk (ziy hx),by show x.length≤11;omega⟩
theorem zf8 {cs:List Col} {ys:List V} (hl:ys.length=cs.length) (h:∀ p∈cs.zip ys,isVal p.1.2 p.2=true):∀ y∈ys,∃ k,isVal k y=true:=by
 intro y hy
 obtain ⟨j,hj,rfl⟩:=ybU hy
 have hz:j < (cs.zip ys).length:=by rw [ycl];omega
 have:=h _ (yam hz)
 rw [ydO] at this
 exact ⟨_,this⟩
theorem isVal_int {i:Int} (h0 : -1000000000≤i) (h1:i≤1000000000):isVal "number" (.int i)=true:=by
 rw [zbr]
 show (decide _&&decide _)=true
 rw [decide_eq_true h0,decide_eq_true h1]
 rfl
theorem num_of {x:Str} {n:Int} (h:numIn x.cps.toList=some n):x=strV (.int n) ∧ -1000000000≤n∧n≤1000000000:=by
 unfold numIn at h
 split at h
 ·split at h
  ·rename_i h2
   cases h
   exact ⟨zcp (by rw [zbC];exact h2.1.symm),h2.2⟩
  ·cases h
 ·cases h
theorem val_of {k x:Str} {v:V} (hk:k = "number"∨k = "word") (h:valIn k x=v) (hv:v ≠ .non):isVal k v=true∧strV v=x:=by
 unfold valIn at h
 rcases hk with rfl | rfl
 ·rw [if_pos rfl] at h
  cases e:numIn x.cps.toList with
  | none=>rw [e] at h;exact absurd h.symm hv
  | some n =>
   rw [e] at h
   obtain ⟨a,b,c⟩:=num_of e
   subst h
   exact ⟨isVal_int b c,a.symm⟩
 ·rw [if_neg (by decide +kernel)] at h
  unfold wordV at h
  split at h
  ·rename_i hx
   subst h
   exact ⟨by rw [zb6];exact hx,rfl⟩
  ·exact absurd h.symm hv
theorem val_at {k:Str} {v:V} (hk:k = "number"∨k = "word") (h:isVal k v=true):valIn k (strV v)=v:=by
 unfold valIn
 rcases hk with rfl | rfl
 ·rw [if_pos rfl]
  rw [zbr] at h
  cases v with
  | int i =>
   simp only [isNum,yaL,decide_eq_true_eq] at h
   rw [zbC,zeU h.1 h.2]
   rfl
  | _=>exact absurd h (by simp [isNum])
 ·rw [if_neg (by decide +kernel)]
  rw [zb6] at h
  cases v with
  | str x=>exact if_pos h
  | _=>exact absurd h (by simp [zez])
theorem non_val {k:Str} {v:V} (h:isVal k v=true):v ≠ .non:=by
 rcases zcs h with ⟨i,rfl,_⟩ | ⟨x,rfl,_⟩ <;> simp
theorem ziZ:∀ {cs:List Col} {ws:List Str},(∀ c∈cs,okCol c)→ws.length=cs.length→V.non∉(cs.zip ws).map (fun p=>valIn p.1.2 p.2) →
  ((cs.zip ws).map fun p=>valIn p.1.2 p.2).map strV=ws∧∀ p∈cs.zip ((cs.zip ws).map fun p=>valIn p.1.2 p.2),isVal p.1.2 p.2=true
 | [],[],_,_,_=>⟨rfl,fun _ z=>nomatch z⟩
 | [],_ :: _,_,h,_=>nomatch h
 | _ :: _,[],_,h,_=>nomatch h
 | c :: cs,x :: ws,ho,hl,hn=>by
  have hn':V.non∉valIn c.2 x :: (cs.zip ws).map (fun p=>valIn p.1.2 p.2):=hn
  rw [yaN,not_or] at hn'
  obtain ⟨a,b⟩:=ziZ (cs:=cs) (ws:=ws) (fun c hc=>ho c (yap _ hc)) (ycH hl) hn'.2
  obtain ⟨d,e⟩:=val_of (ho c yat).2 rfl (yco hn'.1)
  constructor
  ·show strV (valIn c.2 x) :: ((cs.zip ws).map fun p=>valIn p.1.2 p.2).map strV=x :: ws
   rw [a,e]
  ·intro p hp
   have hp':p∈(c,valIn c.2 x) :: cs.zip ((cs.zip ws).map fun p=>valIn p.1.2 p.2):=hp
   rcases yaN.mp hp' with z | z
   ·rw [z];exact d
   ·exact b p z
theorem vals_of {cs:List Col} {ws:List Str} {vs:List V} (ho:∀ c∈cs,okCol c) (h:zbE cs ws=some vs):vs.length=cs.length∧vs.map strV=ws∧∀ p∈cs.zip vs,isVal p.1.2 p.2=true:=by
 unfold zbE at h
 split at h
 ·rename_i hl
  split at h
  ·cases h
  ·rename_i hn
   cases h
   obtain ⟨a,b⟩:=ziZ ho hl hn
   exact ⟨by rw [yaa,ycl,hl,Nat.min_self],a,b⟩
 ·cases h
theorem vals_at:∀ {cs:List Col} {vs:List V},(∀ c∈cs,okCol c)→vs.length=cs.length→(∀ p∈cs.zip vs,isVal p.1.2 p.2=true)→(cs.zip (vs.map strV)).map (fun p=>valIn p.1.2 p.2)=vs∧V.non∉vs
 | [],[],_,_,_=>⟨rfl,fun z=>nomatch z⟩
 | [],_ :: _,_,h,_=>nomatch h
 | _ :: _,[],_,h,_=>nomatch h
 | c :: cs,v :: vs,ho,hl,hv=>by
  obtain ⟨a,b⟩:=vals_at (cs:=cs) (vs:=vs) (fun c hc=>ho c (yap _ hc)) (ycH hl) fun p hp=>hv p (yap _ hp)
  have hv0:isVal c.2 v=true:=hv (c,v) yat
  constructor
  ·show valIn c.2 (strV v) :: (cs.zip (vs.map strV)).map (fun p=>valIn p.1.2 p.2)=v :: vs
   rw [a,val_at (ho c yat).2 hv0]
  ·rw [yaN,not_or]
   exact ⟨yco (non_val hv0),b⟩
theorem valsIn_at {cs:List Col} {vs:List V} (ho:∀ c∈cs,okCol c) (hl:vs.length=cs.length) (hv:∀ p∈cs.zip vs,isVal p.1.2 p.2=true):zbE cs (vs.map strV)=some vs:=by
 obtain ⟨a,b⟩:=vals_at ho hl hv
 unfold zbE
 rw [if_pos (by rw [yaa];exact hl),a,if_neg b]
theorem tj (z:Str) (ys:List Str):ybG z ys=Str.join z ys:=ydq z ys
theorem sj (x z:Str):ybG z (yaV x z)=x:=by rw [tj,StrLaws.join_split]
theorem zaD (x y:Str):(x++y).length=x.length+y.length:=by
 show (x.cps++y.cps).size=_
 rw [Array.size_append]
 rfl
theorem zcT (x:Str):x.cps.toList.length=x.length:=by
 show x.cps.toList.length=x.cps.size
 simp
def jz (z:List Nat):List (List Nat)→List Nat
 | [] => []
 | [x]=>x
 | x :: y :: r=>x++z++jz z (y :: r)
theorem zdb (z:Str):∀ ys:List Str,(ybG z ys).cps.toList=jz z.cps.toList (ys.map (·.cps.toList)):=fun ys=>by
 rw [tj]
 induction ys with
 | nil=>rfl
 | cons x r ih =>
  cases r with
  | nil=>rfl
  | cons y r =>
   show (x++z++Str.join z (y :: r)).cps.toList=x.cps.toList++z.cps.toList++jz z.cps.toList ((y :: r).map (·.cps.toList))
   rw [zdY,zdY,ih]
theorem mem_jz {z:List Nat} {d:Nat}:∀ {ps:List (List Nat)},d∈jz z ps→d∈z∨∃ p∈ps,d∈p
 | [],h=>nomatch h
 | [x],h => .inr ⟨x,yat,h⟩
 | x :: y :: r,h=>by
  rcases ybn.mp (show d∈x++z++jz z (y :: r) from h) with h | h
  ·rcases ybn.mp h with h | h
   ·exact .inr ⟨x,yat,h⟩
   ·exact .inl h
  ·rcases mem_jz h with h | ⟨p,hp,h⟩
   ·exact .inl h
   ·exact .inr ⟨p,yap _ hp,h⟩
theorem zbX:(" | " : Str).length=3:=by decide +kernel
theorem zgV (x:Str) (a b:Nat):(yd6 x a b).cps.toList=(x.cps.toList.drop a).take (b - a):=by
 show (x.cps.extract a b).toList=_
 rw [Array.toList_extract]
theorem zcA:(" | " : Str).cps.toList = [32,124,32]:=by decide +kernel
theorem at_mid {x:Str} {k:Nat} (h:StrLaws.At x " | " x.length k):x.cps.toList[k+1]? = some 124:=by
 have e:=h.2
 rw [StrLaws.subAt_eq,zbX,zcA,beq_iff_eq] at e
 have e2:=congrArg (fun l=>l[1]?) e
 simp only [List.getElem?_take,yd0] at e2
 simpa using e2
theorem at_here {x:Str} {l r:List Nat} (h:x.cps.toList=l++([32,124,32]++r)):StrLaws.At x " | " x.length l.length:=by
 refine ⟨?_,?_⟩
 ·rw [zbX,← zcT,h]
  simp
 ·rw [StrLaws.subAt_eq,zbX,zcA,beq_iff_eq,h]
  simp
theorem ziQ {x:Str}:∀ (R:List (List Nat)) (pre:List Nat) (cuts:List Nat) (f:Nat),R ≠ []→(∀ r∈R,124∉r)→x.cps.toList=pre++jz [32,124,32] R→StrLaws.ChainG x " | " x.length pre.length cuts f→(∀ k,f≤k→¬ StrLaws.At x " | " x.length k) →
  (StrLaws.partsFrom x 3 pre.length cuts).map (·.cps.toList)=R
 | [],_,_,_,h,_,_,_,_=>absurd rfl h
 | [r],pre,cuts,f,_,hf,e,hG,hn=>by
  have e:x.cps.toList=pre++r:=e
  cases cuts with
  | nil =>
   show [(yd6 x pre.length x.length).cps.toList] = [r]
   rw [zgV,e,List.drop_left,yaA]
   rw [← zcT,e,yao]
   omega
  | cons c cs =>
   exfalso
   obtain ⟨h1,h2,_⟩:=hG
   have m:=at_mid h2
   rw [e,ybJ (by omega)] at m
   exact hf r yat (ycm m)
 | r :: r2 :: R,pre,cuts,f,_,hf,e,hG,hn=>by
  have e:x.cps.toList=pre++(r ++ [32,124,32]++jz [32,124,32] (r2 :: R)):=e
  have e':x.cps.toList=(pre++r)++([32,124,32]++jz [32,124,32] (r2 :: R)):=by rw [e];simp
  have here:=at_here e'
  rw [yao] at here
  have gap:∀ k,pre.length≤k→k < pre.length+r.length→¬ StrLaws.At x " | " x.length k:=fun k k1 k2 hk=>by
   have m:=at_mid hk
   rw [e',ych,ybJ (by omega)] at m
   by_cases k3:k+1 < pre.length+r.length
   ·rw [ydC (by omega)] at m
    exact hf r yat (ycm m)
   ·rw [ybJ (by omega),show k+1 - pre.length - r.length=0 by omega] at m
    exact absurd m (by simp)
  cases cuts with
  | nil =>
   have hG:f=pre.length:=hG
   exact absurd here (hn _ (by omega))
  | cons c cs =>
   obtain ⟨h1,h2,h3,h4⟩:=hG
   have ec:c=pre.length+r.length:=by
    by_cases c1:c < pre.length+r.length
    ·exact absurd h2 (gap c h1 c1)
    ·by_cases c2:pre.length+r.length < c
     ·exact absurd here (h3 _ (by omega) c2)
     ·omega
   subst ec
   rw [zbX] at h4
   have len:(pre++r ++ [32,124,32]).length=pre.length+r.length+3:=by rw [yao,yao];rfl
   have ih:=ziQ (r2 :: R) (pre++r ++ [32,124,32]) cs f (by simp) (fun q hq=>hf q (yap _ hq)) (by rw [e];simp) (by rw [len];exact h4) hn
   rw [len] at ih
   show (yd6 x pre.length (pre.length+r.length)).cps.toList :: (StrLaws.partsFrom x 3 (pre.length+r.length+3) cs).map (·.cps.toList)=_
   rw [ih,zgV,e,List.drop_left,Nat.add_sub_cancel_left,ych,List.take_left]
theorem zjV {R:List Str} (hn:R ≠ []) (hf:∀ r∈R,124∉r.cps.toList):yaV (ybG " | " R) " | " = R:=by
 obtain ⟨x,ex⟩:∃ x,x=ybG " | " R:=⟨_,rfl⟩
 have codes:x.cps.toList=jz [32,124,32] (R.map (·.cps.toList)):=by rw [ex,zdb,zcA]
 rw [← ex]
 have hf':∀ r∈R.map (·.cps.toList),124∉r:=fun r hr=>by
  obtain ⟨y,hy,rfl⟩:=yaG.mp hr
  exact hf y hy
 have hn':R.map (·.cps.toList) ≠ []:=by simpa using hn
 obtain ⟨f,hG,hT⟩:=StrLaws.occ_tight x " | " (by rw [zbX];decide)
 have key:StrLaws.partsFrom x 3 0 (ybK x " | " 0 x.length (x.length+1))=R:=zdp (ziQ (R.map (·.cps.toList)) [] _ f hn' hf' codes hG hT)
 unfold yaV
 split
 ·rename_i hc
  have no:124∉x.cps.toList∨x.length < 3:=by
   rw [Bool.or_eq_true,decide_eq_true_eq,decide_eq_true_eq,zbX] at hc
   rcases hc with h | h
   ·exact .inr h
   ·refine .inl (StrLaws.kind_free x 124 ?_)
    rw [show ydP ⟨#[124]⟩=ydP " | " by decide +kernel]
    exact h
  match R,hn,codes,ex with
  | [r],_,codes,ex=>rw [ex];rfl
  | r :: r2 :: R,_,codes,_ =>
   exfalso
   have codes:x.cps.toList=r.cps.toList ++ [32,124,32]++jz [32,124,32] (r2.cps.toList :: R.map (·.cps.toList)):=codes
   rcases no with h | h
   ·exact h (by rw [codes];simp)
   ·rw [← zcT,codes] at h
    simp at h
    omega
 ·split
  ·rename_i hc
   have e:ybK x " | " 0 x.length (x.length+1) = []:=List.isEmpty_iff.mp hc
   rw [e] at key
   rw [← key]
   show [x] = [yd6 x 0 x.length]
   rw [StrLaws.sub_whole]
  ·rw [StrLaws.partsBetween_eq,zbX]
   exact key
def vKey:V→Key
 | .int i => .inl i
 | .str x => .inr x
 | _ => .inl 0
theorem vKey_back {k:Str} {v:V} (h:isVal k v=true):kV (vKey v)=v:=by
 rcases zcs h with ⟨i,rfl,_⟩ | ⟨x,rfl,_⟩ <;> rfl
def zds (cs:List Col):List Bool:=cs.map fun c=>decide (c.2=("number" : Str))
theorem zde:∀ {cs:List Col} {vs:List V},(∀ c∈cs,okCol c)→vs.length=cs.length→(∀ p∈cs.zip vs,isVal p.1.2 p.2=true)→zaF (zds cs) (vs.map vKey)=true∧(vs.map vKey).map kV=vs
 | [],[],_,_,_=>⟨rfl,rfl⟩
 | [],_ :: _,_,h,_=>nomatch h
 | _ :: _,[],_,h,_=>nomatch h
 | c :: cs,v :: vs,ok,hl,hv=>by
  have h1:=hv (c,v) (by simp)
  obtain ⟨i1,i2⟩:=zde (cs:=cs) (vs:=vs) (fun d hd=>ok d (yap _ hd)) (ycH hl) fun p hp=>hv p (by rw [List.zip_cons_cons];exact yap _ hp)
  have hb:=vKey_back h1
  refine ⟨?_,by rw [yan,yan,hb,i2]⟩
  dsimp only at h1
  rcases (ok c yat).2 with e | e
  ·rw [e,zbr] at h1
   show zaF (decide (c.2=("number" : Str)) :: zds cs) (vKey v :: vs.map vKey)=true
   rw [decide_eq_true e]
   cases v with
   | int i=>exact i1
   | _=>cases h1
  ·rw [e,zb6] at h1
   show zaF (decide (c.2=("number" : Str)) :: zds cs) (vKey v :: vs.map vKey)=true
   rw [e,show decide (("word" : Str) = "number")=false by decide +kernel]
   cases v with
   | str i=>exact i1
   | _=>cases h1
def rowK (cs:List Col) (p:Str):Option (List Key):=(zbE cs (yaV p " ")).map (List.map vKey)
theorem zhB {cs:List Col} {p:Str} {ks:List Key} (ok:∀ c∈cs,okCol c) (h:rowK cs p=some ks):zbE cs (yaV p " ")=some (ks.map kV)∧zaF (zds cs) ks=true:=by
 unfold rowK at h
 cases e:zbE cs (yaV p " ") with
 | none=>rw [e] at h;cases h
 | some vs =>
  rw [e] at h
  cases h
  obtain ⟨a,b,c⟩:=vals_of ok e
  obtain ⟨i1,i2⟩:=zde ok a c
  exact ⟨by rw [i2],i1⟩
theorem rowK_none {cs:List Col} {p:Str} (h:rowK cs p=none):zbE cs (yaV p " ")=none:=by
 unfold rowK at h
 cases e:zbE cs (yaV p " ") with
 | none=>rfl
 | some vs=>rw [e] at h;cases h
def nat0 (x:Str):Option Int:=match numIn x.cps.toList with
 | some n=>if 0≤n then some n else none
 | none=>none
def zaO:List Key→Key
 | [] => .inl 0
 | k :: _=>k
def zbU (rows:List (List Key)):Prop:=(rows.map zaO).Pairwise fun x y=>ltKey x y=true
instance (rows:List (List Key)):Decidable (zbU rows):=by unfold zbU;infer_instance
def zc1 (cs:List Col) (ps:List Str):Option (List (List Key)) :=
 if ps.length≤60 then match ps.mapM (rowK cs) with
  | some rows=>if zbU rows then some rows else none
  | none=>none
 else none
abbrev Page:=Str×Int×Int×List (List Key)
def zch (tabs:List Tab):List Str→Option (Tab×Int×Int)
 | [a,b,c,d]=>if a=("page" : Str) then match tabs.find? (fun t=>decide (t.1=b)) with
   | some t=>match nat0 c,nat0 d with
    | some n,some m=>some (t,n,m)
    | _,_=>none
   | none=>none
  else none
 | _=>none
def zcy (tabs:List Tab):List Str→Option Page
 | []=>none
 | p :: ps=>match zch tabs (yaV p " ") with
  | some (t,n,m)=>(zc1 t.2 ps).map fun rows=>(t.1,n,m,rows)
  | none=>none
def zeI (tabs:List Tab) (x:Str):Option Page:=if ycG x ";" = true then zcy tabs (yaV (ya3 x none (some (-1))) " | ") else none
def RowAt (H:Hp) (a:Addr) (ks:List Key):Prop:=H a=some (.tup (ks.map kV))
def RowsAt (H:Hp) (as:List Addr) (rows:List (List Key)):Prop:=Paired (RowAt H) as rows
theorem RowsAt.same {H H':Hp} {as:List Addr} {rows:List (List Key)} (h:RowsAt H as rows) (s:Same H H'):RowsAt H' as rows:=Paired.mapP h fun _ _ e=>s _ _ e
theorem RowsAt.updL {H:Hp} {as:List Addr} {D:Addr} {rows:List (List Key)} {xs:List V} {o:HO} (h:RowsAt H as rows) (hd:H D=some (.lst xs)):RowsAt (upd H D o) as rows:=Paired.mapP h fun a r e=>by
 show upd H D o a=_
 rw [zar (fun z=>by rw [z] at e;exact absurd (hd.symm.trans e) (fun y=>nomatch y))]
 exact e
def PageAt (H H':Hp):Option Page→V→Prop
 | none,r=>r = .non
 | some (t,n,m,rows),r=>∃ (a l:Addr) (as:List Addr),r = .ref a∧H a=none∧H l=none∧H' a=some (.tup [.str t,.int n,.int m,.ref l])∧H' l=some (.lst (as.map V.ref))∧RowsAt H' as rows
def zc2:Sp:=fun vs H Q _=>∃ x:Str,vs = [.str x]∧x.length≤10000∧∀ H',Same H H'→Q (optV (nat0 x)) H'
def HeadAt (H:Hp):Option (Tab×Int×Int)→V→Prop
 | none,r=>r = .non
 | some (t,n,m),r=>∃ a,r = .ref a∧H a=some (.tup [.str t.1,.int n,.int m])
def zjB (C:Addr):Sp:=fun vs H Q _=>∃ (p b:Addr) (tabs:List Tab) (ords:List Col) (ws:List Str),vs = [.ref p,.ref b]∧SchemaAt C H p tabs ords∧zcH tabs∧H b=some (.lst (ws.map V.str))∧(∀ w∈ws,w.length≤10000) ∧
 ∀ (r:V) (H':Hp),Same H H'→HeadAt H' (zch tabs ws) r→Q r H'
theorem at2 {x y z:Str} {xs:List Str}:atI ((x :: y :: z :: xs).map V.str) 2=some (.str z):=zcR (by decide) rfl
theorem at3 {x y z u:Str} {xs:List Str}:atI ((x :: y :: z :: u :: xs).map V.str) 3=some (.str u):=zcR (by decide) rfl
theorem zcE {x:Str} (h:numIn x.cps.toList=none):nat0 x=none:=by
 unfold nat0
 rw [h]
theorem zcG {x:Str} {n:Int} (h:numIn x.cps.toList=some n):nat0 x=if 0≤n then some n else none:=by
 unfold nat0
 rw [h]
theorem zbk {tabs:List Tab} {u t c d:Str}:zch tabs [u,t,c,d]=if u=("page" : Str) then match tabs.find? (fun e=>decide (e.1=t)) with
   | some e=>match nat0 c,nat0 d with
    | some n,some m=>some (e,n,m)
    | _,_=>none
   | none=>none
  else none:=rfl
theorem zf6 {tabs:List Tab} {ws:List Str} (h:ws.length≠4):zch tabs ws=none:=by
 match ws,h with
 | [],_=>rfl
 | [_],_=>rfl
 | [_,_],_=>rfl
 | [_,_,_],_=>rfl
 | [_,_,_,_],h=>exact absurd rfl h
 | _ :: _ :: _ :: _ :: _ :: _,_=>rfl
section
variable {P:Program} {w:World} {K:PySem.W.Frag} {mg:Str→Option Value} {base:Heap}
theorem zcX (T:Txt K mg):FnOk P w K mg base CX0 6 T.number_from_nought.f T.number_from_nought.fd ["text"] zc2:=by
 have G_value_in:FnOk P w K mg base CX0 5 T.value_in.f T.value_in.fd _ _:=ze8 T
 refine T.number_from_nought.fn.ok sc_number_from_nought (fun vs H Q E h => ?_) (fun cdv A outer s H vs Q E hr h => ?_)
 ·obtain ⟨x,rfl,_⟩:=h
  rfl
 ·obtain ⟨x,rfl,hx,q⟩:=h
  refine ⟨_,((zae (zat (i:=1) sc_number_from_nought.nd rfl (yaR rfl) (zam G_value_in (hr.mono (by decide)) rfl (zaa zay (zaa (pv 0) zad))))
   (zah (zao (zcQ (PW.pt (zg1 (zc0 (pc_notN (pv 1))) (zeo (zan op_ge (pv 1) zaf (zaA _))))) (pv 1) zaZ))))),?_⟩
  refine sq1 fun Rz1 qz1 => ?_
  refine (ea rfl ⟨"number",x,rfl,.inl rfl,hx,fun H1 s1 => ?_⟩)
  rw [if_pos rfl]
  have q1:=q H1 s1
  cases e:numIn x.cps.toList with
  | none =>
   rw [zcE e] at q1
   refine qz1 ?_
   exact (ea rfl (ea rfl (iteF q1)))
  | some n =>
   rw [zcG e] at q1
   refine qz1 ?_
   refine (ea rfl (ea rfl (ite2 (fun _ => ?_) (fun z=>absurd rfl z))))
   refine (ea rfl ⟨_,ea rfl ⟨rfl,ea rfl (ite2 (fun z => ?_) (fun z => ?_))⟩⟩)
   ·have z:0≤n:=of_decide_eq_true z
    rw [if_pos z] at q1
    exact (ea rfl q1)
   ·have z:¬ 0≤n:=fun y=>z (decide_eq_true y)
    rw [if_neg z] at q1
    exact q1
theorem zjM (T:Txt K mg):FnOk P w K mg base CX0 7 T.head_in.f T.head_in.fd ["schema", "words"] (zjB T.C_Schema):=by
 have G_number_from_nought:FnOk P w K mg base CX0 6 T.number_from_nought.f T.number_from_nought.fd _ _:=zcX T
 have G_Schema_table_names:FnOk P w K mg base CX0 1 T.Schema_table_names.f T.Schema_table_names.fd _ _:=zc4 T
 refine T.head_in.fn.ok sc_head_in (fun vs H Q E h => ?_) (fun cdv A outer s H vs Q E hr h => ?_)
 ·obtain ⟨p,b,tabs,ords,ws,rfl,_⟩:=h
  rfl
 ·obtain ⟨p,b,tabs,ords,ws,rfl,hS,hok,hb,hw,q⟩:=h
  refine ⟨_,((zae (ps_if (PW.pt (pw_or (zan op_ne (zak (zap (K:=K) rfl) (by rfl) T.b_len za0 (zaa (pv 1) zad)) zaf (zaA _)) (pw_or (zan op_ne (pe_ix (zaj (K:=K) rfl) (pv 1) zaf (fun _ _=>rfl)) (zbJ rfl T.c_PAGE_WORD (T.r_PAGE_WORD)) (zaA _)) (zbn (zan (zcL (K:=K) rfl) (pe_ix (zaj (K:=K) rfl) (pv 1) zaf (fun _ _=>rfl)) (pe_mown0 T.l_Schema G_Schema_table_names (hr.mono (by decide)) (pv 0)) (by with_unfolding_all rfl)))))) (zah (zao zaZ)) zau)
   (zae (zat (i:=2) sc_head_in.nd rfl (yaR rfl) (zam G_number_from_nought (hr.mono (by decide)) rfl (zaa (pe_ix (zaj (K:=K) rfl) (pv 1) zaf (fun _ _=>rfl)) zad)))
   (zae (zat (i:=3) sc_head_in.nd rfl (yaR rfl) (zam G_number_from_nought (hr.mono (by decide)) rfl (zaa (pe_ix (zaj (K:=K) rfl) (pv 1) zaf (fun _ _=>rfl)) zad)))
   (zah (zao (zcQ (PW.pt (pw_or (zc0 (zdl (pv 2))) (zbn (zc0 (zdl (pv 3)))))) zaZ (zce (zaa (pe_ix (zaj (K:=K) rfl) (pv 1) zaf (fun _ _=>rfl)) (zaa (pv 2) (zaa (pv 3) zad))))))))))),?_⟩
  refine sq1 fun Rz2 qz2 => ?_
  refine (ea rfl ⟨b,ea rfl ⟨.inl (SqL.of hb),rfl,ea rfl ?_⟩⟩)
  rw [yaa]
  refine ite2 (fun z => ?_) (fun z => ?_)
  ·have z:ws.length≠4:=fun y=>by rw [y] at z;exact absurd z (by decide)
   exact q _ H (Same.refl H) (by rw [zf6 z];rfl)
  ·have z:ws.length=4:=by
    by_cases y:ws.length=4
    ·exact y
    ·exact absurd (by simp;omega) z
   match ws,z with
   | [u,t,c,d],_ =>
   refine (ea rfl (ixLc (SqL.of hb) at0 ⟨rfl,ea rfl ?_⟩))
   refine ite2 (fun z => ?_) (fun z => ?_)
   ·have z:¬ u=("page" : Str):=fun y=>by
     rw [y] at z
     exact absurd z (by decide +kernel)
    exact q _ H (Same.refl H) (by rw [zbk,if_neg z];rfl)
   ·have z:u=("page" : Str):=by
     by_cases y:u=("page" : Str)
     ·exact y
     ·exact absurd (by simpa using y) z
    subst z
    obtain ⟨dx,tt,oo,dd,hp⟩:=hS.obj
    refine (ea rfl (ixLc (SqL.of hb) at1 (ea rfl ⟨p,dx,ea rfl ⟨hp,no_names ..,p,tabs,ords,rfl,hS,hok,fun l H1 hl s1 hL => ?_⟩⟩)))
    refine ⟨l,ea rfl ⟨.inl (SqL.of hL),rfl,zdM _,ea rfl ?_⟩⟩
    rw [if_pos rfl,zfQ]
    refine ite2 (fun y => ?_) (fun y => ?_)
    ·have y:t∉tabs.map (·.1):=by simpa using y
     refine q _ H1 s1 ?_
     rw [zbk,if_pos rfl,find_no y]
     rfl
    ·have y:t∈tabs.map (·.1):=by simpa using y
     obtain ⟨k,hk,rfl⟩:∃ (k:Nat) (hk:k < tabs.length),tabs[k].1=t:=by
      obtain ⟨e,he,rfl⟩:=yaG.mp y
      obtain ⟨k,hk,rfl⟩:=ybU he
      exact ⟨k,hk,rfl⟩
     have b1:=s1 _ _ hb
     refine qz2 (sq1 fun Rz3 qz3 => ?_)
     refine (ea rfl (ixLc (SqL.of b1) at2 ⟨c,rfl,hw c (by simp),fun H2 s2 => ?_⟩))
     have b2:=s2 _ _ b1
     refine qz3 (sq1 fun Rz4 qz4 => ?_)
     refine (ea rfl (ixLc (SqL.of b2) at3 ⟨d,rfl,hw d (by simp),fun H3 s3 => ?_⟩))
     have b3:=s3 _ _ b2
     have S3:=(s1.trans s2).trans s3
     have hq:∀ (r:V) (H':Hp),Same H H'→HeadAt H' (match nat0 c,nat0 d with | some n,some m=>some (tabs[k],n,m) | _,_=>none) r→Q r H':=fun r H' s' h'=>q r H' s' (by
      rw [zbk,if_pos rfl,zdt hok.2.2.2 hk]
      exact h')
     cases ec:nat0 c with
     | none =>
      rw [ec] at hq
      refine qz4 ?_
      refine (ea rfl (ea rfl (ite2 (fun _ => ?_) (fun z=>absurd rfl z))))
      exact hq _ H3 S3 rfl
     | some n =>
      rw [ec] at hq
      refine qz4 ?_
      refine (ea rfl (ea rfl (ite2 (fun z=>absurd z (by simp [optV])) (fun _ => ?_))))
      cases ed:nat0 d with
      | none =>
       rw [ed] at hq
       refine (ea rfl (ea rfl (ite2 (fun _ => ?_) (fun z=>absurd rfl z))))
       exact hq _ H3 S3 rfl
      | some m =>
       rw [ed] at hq
       refine (ea rfl (ea rfl (ite2 (fun z=>absurd z (by simp [optV])) (fun _ => ?_))))
       refine (ea rfl (ixLc (SqL.of b3) at1 (ea rfl (ea rfl ⟨zac (show 3≤100000 by decide),fun a ha => ?_⟩))))
       exact hq _ _ (S3.trans (Same.new ha)) ⟨a,rfl,zab⟩
end
theorem zgn:∀ (a b:List Key),eqL (a.map kV) (b.map kV)=decide (a=b)
 | [],[]=>rfl
 | [],_ :: _=>rfl
 | _ :: _,[]=>rfl
 | x :: a,y :: b=>by
  show (eqV (kV x) (kV y)&&eqL (a.map kV) (b.map kV))=_
  rw [zgn a b,yb3,yaL,ziE,decide_eq_true_eq,decide_eq_true_eq]
  exact ⟨(by rintro ⟨h1,h2⟩;rw [h1,h2]),fun h=>⟨(ybY h).1,(ybY h).2⟩⟩
def onceG {α:Type} [DecidableEq α]:List α→List α→List α
 | acc,[]=>acc
 | acc,x :: r=>onceG (if x∈acc then acc else acc ++ [x]) r
theorem ziM:∀ (l acc:List Int),onceN acc l=onceG acc l
 | [],_=>rfl
 | x :: l,acc=>ziM l _
theorem zi3:∀ (l acc:List Str),zcd acc l=onceG acc l
 | [],_=>rfl
 | x :: l,acc=>zi3 l _
section
variable {α:Type} [DecidableEq α]
theorem zdR:∀ (ys acc:List α),(onceG acc ys).length≤acc.length+ys.length
 | [],acc=>yag _
 | y :: ys,acc=>by
  have:=zdR ys (if y∈acc then acc else acc ++ [y])
  show (onceG _ ys).length≤_
  rw [yal]
  split at this
  ·rename_i h
   rw [if_pos h]
   omega
  ·rename_i h
   rw [if_neg h]
   rw [yao] at this
   simp only [yal,ya5] at this
   omega
theorem zem:∀ (ys acc:List α),acc.Nodup→(onceG acc ys).Nodup
 | [],acc,h=>h
 | y :: ys,acc,h=>by
  refine zem ys _ ?_
  split
  ·exact h
  ·rename_i z
   exact nodup_snoc.mpr ⟨h,z⟩
theorem zdV:∀ (ys acc:List α),(acc++ys).Nodup→onceG acc ys=acc++ys
 | [],acc,_=>(ycZ _).symm
 | y :: ys,acc,h=>by
  have ny:y∉acc:=fun z=>(ydx.mp h).2.2 y z y yat rfl
  show onceG (if y∈acc then acc else acc ++ [y]) ys=_
  rw [if_neg ny,zdV ys (acc ++ [y]) (by rw [ych];exact h),ych]
  rfl
theorem zet {lt le:α→α→Prop} (anti:∀ a b,le a b→le b a→a=b) (toLe:∀ a b,lt a b→le a b) (irr:∀ a,¬ lt a a) (toLt:∀ a b,le a b→a≠b→lt a b) {ns ms:List α} (p:ms.Perm (onceG [] ns)) (h:ms.Pairwise le):ns=ms↔ns.Pairwise lt:=by
 constructor
 ·intro e
  subst e
  have nd:ns.Nodup:=p.nodup_iff.mpr (zem ns [] .nil)
  exact (h.and nd).imp fun {a b} ⟨x,y⟩=>toLt a b x y
 ·intro r
  have nd:ns.Nodup:=r.imp fun {a b} x y=>by
   subst y
   exact irr _ x
  rw [zdV ns [] nd,List.nil_append] at p
  exact (List.Perm.eq_of_pairwise (fun a b _ _=>anti a b) h (r.imp fun {a b} x=>toLe a b x) p).symm
theorem ziK {ns:List α}:(onceG [] ns).length < ns.length↔¬ ns.Nodup:=by
 constructor
 ·intro h nd
  rw [zdV ns [] nd] at h
  simp at h
 ·intro h
  rcases ybC (onceG [] ns).length ns.length with z | z
  ·exact z
  ·exfalso
   refine h ?_
   have key:∀ (ys acc:List α),acc.Nodup→acc.length+ys.length≤(onceG acc ys).length→(acc++ys).Nodup:=by
    intro ys
    induction ys with
    | nil=>intro acc nd _;rw [ycZ];exact nd
    | cons y ys ih =>
     intro acc nd hl
     have hl:acc.length+(y :: ys).length≤(onceG (if y∈acc then acc else acc ++ [y]) ys).length:=hl
     by_cases hy:y∈acc
     ·rw [if_pos hy] at hl
      have:=zdR ys acc
      rw [yal] at hl
      omega
     ·rw [if_neg hy] at hl
      have:=ih (acc ++ [y]) (nodup_snoc.mpr ⟨nd,hy⟩) (by rw [yao];simpa [Nat.add_assoc,Nat.add_comm 1] using hl)
      rw [ych] at this
      exact this
   simpa using key ns [] .nil (by simpa using z)
end
theorem zg3:∀ (p:Str) (l:List Str),risingS p l=true→(p :: l).Pairwise (fun a b=>a.cps.toList≤b.cps.toList)
 | p,[],_=>List.pairwise_singleton _ _
 | p,x :: r,h=>by
  have h:(!ltCps x.cps.toList p.cps.toList&&risingS x r)=true:=h
  rw [yaL,ltCps_eq] at h
  have h1:p.cps.toList≤x.cps.toList:=List.not_lt.mp (by simpa using h.1)
  have ih:=zg3 x r h.2
  refine List.pairwise_cons.mpr ⟨fun y hy => ?_,ih⟩
  rcases yaN.mp hy with rfl | hy
  ·exact h1
  ·exact List.le_trans h1 (List.rel_of_pairwise_cons ih hy)
theorem zgX:∀ (l:List Str),sortedS l=true→l.Pairwise (fun a b=>a.cps.toList≤b.cps.toList)
 | [],_ => .nil
 | x :: r,h=>zg3 x r h
theorem ints_rise {ns ms:List Int} (p:ms.Perm (onceN [] ns)) (h:ms.Pairwise (· ≤ ·)):decide (ns=ms)=decide ((ns.map (ycU:Int→Key)).Pairwise fun x y=>ltKey x y=true):=by
 rw [ziM] at p
 apply decide_eq_decide.mpr
 rw [zet (lt:=fun a b:Int=>a < b) (fun a b=>Int.le_antisymm) (fun a b=>Int.le_of_lt) (fun a=>Int.lt_irrefl a) (fun a b x y=>by omega) p h,ybv]
 exact ⟨fun z=>z.imp fun {a b} y=>decide_eq_true y,fun z=>z.imp fun {a b} y=>of_decide_eq_true y⟩
theorem strs_rise {ns ms:List Str} (p:ms.Perm (zcd [] ns)) (h:sortedS ms=true):decide (ns=ms)=decide ((ns.map (ycC:Str→Key)).Pairwise fun x y=>ltKey x y=true):=by
 rw [zi3] at p
 apply decide_eq_decide.mpr
 rw [zet (lt:=fun a b:Str=>a.cps.toList < b.cps.toList) (le:=fun a b:Str=>a.cps.toList≤b.cps.toList) (fun a b x y=>zcp (List.le_antisymm x y)) (fun a b=>List.le_of_lt) (fun a=>List.lt_irrefl _) (fun a b x y=>by
  rcases List.le_iff_lt_or_eq.mp x with z | z
  ·exact z
  ·exact absurd (zcp z) y) p (zgX ms h),ybv]
 exact ⟨fun z=>z.imp fun {a b} y=>decide_eq_true y,fun z=>z.imp fun {a b} y=>of_decide_eq_true y⟩
theorem zej:∀ {ks:List Key},(∀ x∈ks,zaF [true] [x]=true)→∃ ns:List Int,ks=ns.map ycU
 | [],_=>⟨[],rfl⟩
 | .inl i :: ks,h=>by
  obtain ⟨ns,e⟩:=zej fun x hx=>h x (yap _ hx)
  exact ⟨i :: ns,by rw [e];rfl⟩
 | .inr i :: ks,h=>absurd (h _ yat) (fun z=>nomatch z)
theorem zed:∀ {ks:List Key},(∀ x∈ks,zaF [false] [x]=true)→∃ ns:List Str,ks=ns.map ycC
 | [],_=>⟨[],rfl⟩
 | .inr i :: ks,h=>by
  obtain ⟨ns,e⟩:=zed fun x hx=>h x (yap _ hx)
  exact ⟨i :: ns,by rw [e];rfl⟩
 | .inl i :: ks,h=>absurd (h _ yat) (fun z=>nomatch z)
theorem zcn {k:Bool} {ks:List Bool} {r:List Key} (h:zaF (k :: ks) r=true):zaF [k] [zaO r]=true∧∃ x r',r=x :: r':=by
 match k,r,h with
 | true,.inl i :: r,_=>exact ⟨rfl,_,_,rfl⟩
 | false,.inr i :: r,_=>exact ⟨rfl,_,_,rfl⟩
 | true,.inr i :: r,h=>cases h
 | false,.inl i :: r,h=>cases h
 | true,[],h=>cases h
 | false,[],h=>cases h
theorem mapM_all {α β:Type} {f:α→Option β}:∀ {l:List α} {m:List β},l.mapM f=some m↔l.map f=m.map some
 | [],m=>by
  cases m with
  | nil=>exact ⟨fun _=>rfl,fun _=>rfl⟩
  | cons y m=>exact ⟨(fun h=>nomatch h),(fun h=>nomatch h)⟩
 | x :: l,m=>by
  rw [yeq,yan]
  cases m with
  | nil =>
   refine ⟨fun h => ?_,(fun h=>nomatch h)⟩
   cases e:f x with
   | none=>rw [e] at h;cases h
   | some y =>
    rw [e] at h
    cases e2:l.mapM f with
    | none=>rw [e2] at h;cases h
    | some z=>rw [e2] at h;cases h
  | cons y m =>
   rw [yan]
   constructor
   ·intro h
    cases e:f x with
    | none=>rw [e] at h;cases h
    | some y =>
     rw [e] at h
     cases e2:l.mapM f with
     | none=>rw [e2] at h;cases h
     | some z =>
      rw [e2] at h
      cases h
      rw [mapM_all.mp e2]
   ·intro h
    obtain ⟨h1,h2⟩:=ybY h
    rw [h1,mapM_all.mpr h2]
    rfl
theorem zg0 {α β:Type} {f:α→Option β}:∀ {l:List α},none∈l.map f→l.mapM f=none
 | [],h=>nomatch h
 | x :: l,h=>by
  rw [yeq]
  cases e:f x with
  | none=>rfl
  | some y =>
   rw [yan,e] at h
   rcases yaN.mp h with z | z
   ·cases z
   ·rw [zg0 z]
    rfl
theorem zf7 {β:Type}:∀ {l:List (Option β)},none∉l→∃ m:List β,l=m.map some
 | [],_=>⟨[],rfl⟩
 | none :: l,h=>absurd yat h
 | some y :: l,h=>by
  obtain ⟨m,e⟩:=zf7 fun z=>h (yap _ z)
  exact ⟨y :: m,by rw [e];rfl⟩
theorem hu_of {k:Nat} {A:Around} (r:Room k A):A.units+1 < cLine:=by have:=r.un;omega
theorem zfU {x:V} {l:List V}:atI (x :: l) 0=some x:=zcR (by decide) rfl
theorem zg6 (l:List Int):(l.map V.int).all flatV=true:=by
 rw [ycw]
 exact yaP.mpr fun _ _=>rfl
theorem eqL_ints (a b:List Int):eqL (a.map V.int) (b.map V.int)=decide (a=b):=by
 have:=zgn (a.map ycU) (b.map ycU)
 rw [ybb,ybb] at this
 rw [show eqL (a.map V.int) (b.map V.int)=_ from this]
 apply decide_eq_decide.mpr
 exact ⟨fun h=>(List.map_inj_right (fun x y e=>Sum.inl.inj e)).mp h,fun h=>by rw [h]⟩
theorem eqL_strs2 (a b:List Str):eqL (a.map V.str) (b.map V.str)=decide (a=b):=by
 have:=zgn (a.map ycC) (b.map ycC)
 rw [ybb,ybb] at this
 rw [show eqL (a.map V.str) (b.map V.str)=_ from this]
 apply decide_eq_decide.mpr
 exact ⟨fun h=>(List.map_inj_right (fun x y e=>Sum.inr.inj e)).mp h,fun h=>by rw [h]⟩
def RowV (H:Hp):Option (List Key)→V→Prop
 | none,v=>v = .non
 | some ks,v=>∃ a,v = .ref a∧RowAt H a ks
theorem RowV.same {H H':Hp} {o:Option (List Key)} {v:V} (h:RowV H o v) (s:Same H H'):RowV H' o v:=by
 cases o with
 | none=>exact h
 | some ks=>obtain ⟨a,e,r⟩:=h;exact ⟨a,e,s _ _ r⟩
theorem rowV_of {H:Hp} {cs:List Col} {p:Str} {v:V} (ok:∀ c∈cs,okCol c) (h:RowO H (zbE cs (yaV p " ")) v):RowV H (rowK cs p) v:=by
 cases e:rowK cs p with
 | none =>
  rw [rowK_none e] at h
  exact h
 | some ks =>
  rw [(zhB ok e).1] at h
  exact h
theorem zga {H:Hp}:∀ {os:List (Option (List Key))} {vs:List V},Paired (RowV H) os vs→vs.any zhy=os.any (·.isNone)
 | _,_,.nil=>rfl
 | none :: os,_,.cons e t=>by
  have e:_=V.non:=e
  subst e
  simp [zhy]
 | some ks :: os,_,.cons e t=>by
  obtain ⟨a,rfl,_⟩:=e
  rw [ycS,zga t]
  simp [zhy]
theorem zeF {H:Hp}:∀ {rows:List (List Key)} {vs:List V},Paired (RowV H) (rows.map some) vs→∃ as,vs=as.map V.ref∧RowsAt H as rows
 | [],_,.nil=>⟨[],rfl,.nil⟩
 | r :: rows,_,.cons e t=>by
  obtain ⟨a,rfl,h⟩:=e
  obtain ⟨as,e1,e2⟩:=zeF t
  exact ⟨a :: as,by rw [e1];rfl,.cons h e2⟩
def RowsO (H H':Hp):Option (List (List Key))→V→Prop
 | none,r=>r = .non
 | some rows,r=>∃ (l:Addr) (as:List Addr),r = .ref l∧H l=none∧H' l=some (.lst (as.map V.ref))∧RowsAt H' as rows
def zjU:Sp:=fun vs H Q _=>∃ (a b:Addr) (qs:List Addr) (cs:List Col) (ps:List Str),vs = [.ref a,.ref b]∧H a=some (.lst (qs.map V.ref))∧ColsAt H qs cs∧(∀ c∈cs,okCol c)∧1≤cs.length∧cs.length≤4∧H b=some (.lst (ps.map V.str))∧(∀ p∈ps,p.length≤10000)∧ps.length≤10001 ∧
 ∀ (r:V) (H':Hp),Same H H'→RowsO H H' (zc1 cs ps) r→Q r H'
theorem zeq {cs:List Col} {ps:List Str} (h:¬ ps.length≤60):zc1 cs ps=none:=if_neg h
theorem zer {cs:List Col} {ps:List Str} (h:none∈ps.map (rowK cs)):zc1 cs ps=none:=by
 unfold zc1
 rw [zg0 h]
 split <;> rfl
theorem zdq {cs:List Col} {ps:List Str} {rows:List (List Key)} (h:ps.length≤60) (e:ps.map (rowK cs)=rows.map some):zc1 cs ps=if zbU rows then some rows else none:=by
 unfold zc1
 rw [if_pos h,mapM_all.mpr e]
theorem zfN {cs:List Col} {ps:List Str} {rows:List (List Key)} (ok:∀ c∈cs,okCol c) (e:ps.map (rowK cs)=rows.map some):∀ r∈rows,zaF (zds cs) r=true:=fun r hr=>by
 have:some r∈ps.map (rowK cs):=by rw [e];exact yaG.mpr ⟨r,hr,rfl⟩
 obtain ⟨p,_,ep⟩:=yaG.mp this
 exact (zhB ok ep).2
theorem zcY {cs:List Col} (h:1≤cs.length):∃ k ks,zds cs=k :: ks:=by
 cases cs with
 | nil=>exact absurd h (by decide)
 | cons c cs=>exact ⟨_,_,rfl⟩
section
variable {P:Program} {w:World} {K:PySem.W.Frag} {mg:Str→Option Value} {base:Heap}
theorem zjO (T:Txt K mg):FnOk P w K mg base CX0 7 T.rows_in.f T.rows_in.fd ["columns", "parts"] zjU:=by
 have G_values_in:FnOk P w K mg base CX0 6 T.values_in.f T.values_in.fd _ _:=zhz T
 refine T.rows_in.fn.ok sc_rows_in (fun vs H Q E h => ?_) (fun cdv A outer s H vs Q E hr h => ?_)
 ·obtain ⟨a,b,qs,cs,ps,rfl,_⟩:=h
  rfl
 ·obtain ⟨a,b,qs,cs,ps,rfl,ha,hc,okc,l1,l4,hb,hp,lp,q⟩:=h
  have hu0:=hr.units0
  have hu1:=hu_of hr
  refine ⟨_,((zae (zdo (i:=2) sc_rows_in.nd rfl (yaR rfl) (N := ["part", "columns"]) (own:=1) (caps := [0]) rfl (by kernel_rfl) (by kernel_rfl) (zaQ (K:=K) rfl (pv 1)) (fun _ _ _ _ _=>zal (i:=0) (show List.Nodup (["part", "columns"]:List Str) by decide +kernel) rfl (yaR rfl)) (fun _ _ _ _ _=>zaM) (fun _ _ _ _ _=>(zam G_values_in (hr.mono (by decide)) rfl (zaa (pv 1) (zaa (zaY (K:=K) rfl yaQ yb1 yb2 zcM (pv 0) (zaa zay zad)) zad)))))
   (zae (ps_if (PW.pt (pw_or (zan op_gt (zak (zap (K:=K) rfl) (by rfl) T.b_len za0 (zaa (pv 2) zad)) (zbJ rfl T.c_MOST_ROWS (T.r_MOST_ROWS)) (zaA _)) (zbn (zan (zhR (K:=K) rfl hu1) zaZ (pv 2) (by with_unfolding_all rfl))))) (zah (zao zaZ)) zau)
   (zae (zdo (i:=3) sc_rows_in.nd rfl (yaR rfl) (N := ["row"]) (own:=1) (caps := []) rfl (by kernel_rfl) (by kernel_rfl) (zaQ (K:=K) rfl (pv 2)) (fun _ _ _ _ _=>zal (i:=0) (show List.Nodup (["row"]:List Str) by decide +kernel) rfl (yaR rfl)) (fun _ _ _ _ _=>zaM) (fun _ _ _ _ _=>(pe_ix (zaK (K:=K) rfl) (pv 0) zaf (fun _ _=>rfl))))
   (zah (zao (zcQ (zan (op_eqLK (K:=K) rfl hu0) (pv 3) (zak (CallR.or (zgK rfl) (zha rfl)) (by rfl) T.b_sorted zen (zaa (zav (CallR.or (zgD rfl) (zgZ rfl)) (by rfl) T.b_set ziH (zaa (pv 3) zad)) zad)) (zaA _)) (pv 2) zaZ))))))),?_⟩
  refine sq1 fun Rz1 qz1 => ?_
  refine (ea rfl ⟨b,rfl,⟨_,SqL.of hb⟩,fun D hD => ?_⟩)
  refine zaz (J:=Itl K b) ps.length (fun j τ H3=>∃ (v0:Option V) (vs:List V),τ = [v0,some (.ref a)]∧Same H H3∧H3 D=some (.lst vs)∧Paired (RowV H3) ((ps.take j).map (rowK cs)) vs)
   ⟨none,[],rfl,Same.new hD,zab,.nil⟩
   (fun j τ H3 hj ⟨_,_,_,sm,_⟩=>⟨_,.str ps[j],SqL.of (sm _ _ hb),by rw [yae,yab hj];rfl⟩)
   (by rintro τ H3 ⟨_,_,_,sm,_⟩;exact ⟨_,SqL.of (sm _ _ hb),by rw [yaa];exact yag _⟩) ?_ ?_
  ·rintro j τ H3 y H4 hj ⟨v0,vs,rfl,sm,hd,pr⟩ ⟨rfl,hy5⟩
   have e5:=hy5 _ (SqL.of (sm _ _ hb))
   rw [yae,yab hj] at e5
   cases (yas e5)
   have hl:=hp _ (yam hj)
   refine (ea rfl (ea rfl ⟨rfl,_,ea rfl ⟨rfl,(by decide +kernel),zac (show _+2≤100000 by omega),fun c hc' => ?_⟩⟩))
   have s4:Same H4 (upd H4 c (.lst ((yaV ps[j] " ").map V.str))):=Same.new hc'
   refine ⟨a,c,qs,cs,ea rfl ⟨s4 _ _ (sm _ _ ha),(hc.same sm).same s4,okc,l4,zab,fun w' hw'=>ya1 (part_short hw') hl,fun r H5 s5 h5 => ?_⟩⟩
   have S5:=s4.trans s5
   refine ⟨vs,S5 _ _ hd,?_,some (.str ps[j]),vs ++ [r],rfl,(sm.trans S5).upd hD,zab,?_⟩
   ·have:=yaz pr
    rw [yaa,yaj] at this
    exact zai (by omega)
   ·rw [ybc,yab hj,yah]
    have hu:=S5 _ _ hd
    have keep:∀ o v,RowV H5 o v→RowV (upd H5 D (.lst (vs ++ [r]))) o v:=fun o v h=>by
     cases o with
     | none=>exact h
     | some ks =>
      obtain ⟨x,e,hx⟩:=h
      exact ⟨x,e,(zar (fun z=>by rw [z] at hx;exact absurd (hu.symm.trans hx) (fun y=>nomatch y))).trans hx⟩
    exact Paired.snoc (Paired.mapP pr fun o v h=>keep o v (h.same S5)) (keep _ _ (rowV_of okc h5))
  ·rintro τ H3 ⟨v0,vs,rfl,sm,hd,pr⟩
   rw [yaA (yag _)] at pr
   have lv:vs.length=ps.length:=by rw [← yaz pr,yaa]
   refine qz1 (sq1 fun Rz2 qz2 => ?_)
   refine (ea rfl ⟨D,ea rfl ⟨.inl (SqL.of hd),_,ea rfl ⟨rfl,ea rfl ?_⟩⟩⟩)
   rw [lv]
   refine ite2 (fun z => ?_) (fun z => ?_)
   ·have z:¬ ps.length≤60:=by
     have z:=of_decide_eq_true z
     omega
    exact q _ H3 sm (by rw [zeq z];rfl)
   ·have z:ps.length≤60:=by
     rcases ybC 60 ps.length with y | y
     ·exact absurd (decide_eq_true (by omega)) z
     ·exact y
    refine (ea rfl ⟨D,vs,rfl,rfl,SqL.of hd,fun v hv => ?_,ea rfl ?_⟩)
    ·obtain ⟨j,hj,rfl⟩:=ybU hv
     have:=Paired.at pr j (by rw [yaa];omega) hj
     cases eo:((ps.map (rowK cs))[j]'(by rw [yaa];omega)) with
     | none=>rw [eo] at this;exact .inl this
     | some ks =>
      rw [eo] at this
      obtain ⟨x,e,hx⟩:=this
      exact .inr ⟨x,_,e,SqT.of hx⟩
    have an:=zga pr
    rw [an]
    refine ite2 (fun y => ?_) (fun y => ?_)
    ·obtain ⟨o,ho,eo⟩:=yde.mp y
     have ho:none∈ps.map (rowK cs):=by
      cases o with
      | none=>exact ho
      | some _=>cases eo
     exact q _ H3 sm (by rw [zer ho];rfl)
    ·have nn:none∉ps.map (rowK cs):=fun h=>y (yde.mpr ⟨none,h,rfl⟩)
     obtain ⟨rows,er⟩:=zf7 nn
     rw [er] at pr
     obtain ⟨as,rfl,hrows⟩:=zeF pr
     have la:as.length=rows.length:=yaz hrows
     have lr:rows.length=ps.length:=by rw [← yaa (f:=rowK cs),er,yaa]
     have kn:=zfN okc er
     obtain ⟨k,ks,ek⟩:=zcY l1
     refine qz2 (sq1 fun Rz3 qz3 => ?_)
     refine (ea rfl ⟨D,rfl,⟨_,SqL.of hd⟩,fun D2 hD2 => ?_⟩)
     refine zaz (J:=Itl K D) as.length (fun j τ H4=>∃ (v0:Option V),τ = [v0]∧Same H3 H4∧H4 D2=some (.lst (((rows.take j).map zaO).map kV)))
      ⟨none,rfl,Same.new hD2,zab⟩
      (fun j τ H4 hj ⟨_,_,sm4,_⟩=>⟨_,.ref as[j],SqL.of (sm4 _ _ hd),by rw [yae,yab hj];rfl⟩)
      (by rintro τ H4 ⟨_,_,sm4,_⟩;exact ⟨_,SqL.of (sm4 _ _ hd),by rw [yaa];exact yag _⟩) ?_ ?_
     ·rintro j τ H4 y H5 hj ⟨v0,rfl,sm4,hd4⟩ ⟨rfl,hy5⟩
      have e5:=hy5 _ (SqL.of (sm4 _ _ hd))
      rw [yae,yab hj] at e5
      cases (yas e5)
      have hj2:j < rows.length:=by omega
      have rj:=sm4 _ _ (Paired.at hrows j hj hj2)
      obtain ⟨f1,x,r',ex⟩:=zcn (by rw [← ek];exact kn _ (yam hj2))
      refine (ea rfl (ixTc (SqT.of rj) (by rw [ex];exact zfU) ?_))
      refine ⟨_,hd4,by rw [yaa,yaa,yaj];exact zai (by omega),ea rfl ⟨sm4.upd hD2,?_⟩⟩
      rw [zab,ybc,yab hj2,yah,yah,ex]
      rfl
     ·rintro τ H4 ⟨v0,rfl,sm4,hd4⟩
      rw [yaA (by omega)] at hd4
      have rin:=zdq z er
      have done:∀ H',Same H H'→H' D=some (.lst (as.map V.ref))→RowsAt H' as rows→(if decide (zbU rows)=true then Q (.ref D) H' else Q .non H'):=fun H' s' d' r'=>by
       refine ite2 (fun y => ?_) (fun y => ?_)
       ·refine q _ H' s' ?_
        rw [rin,if_pos (of_decide_eq_true y)]
        exact ⟨D,as,rfl,hD,d',r'⟩
       ·refine q _ H' s' ?_
        rw [rin,if_neg (fun x=>y (decide_eq_true x))]
        rfl
      have fk:∀ x∈rows.map zaO,zaF [k] [x]=true:=fun x hx=>by
       obtain ⟨r,hr',rfl⟩:=yaG.mp hx
       exact (zcn (by rw [← ek];exact kn r hr')).1
      cases k with
      | true =>
       obtain ⟨ns,en⟩:=zej fk
       have ln:ns.length=rows.length:=by rw [← yaa (f:=zaO),en,yaa]
       have dec:decide (zbU rows)=decide ((ns.map (ycU:Int→Key)).Pairwise fun x y=>ltKey x y=true):=decide_eq_decide.mpr (by unfold zbU;rw [en])
       rw [dec] at done
       have hd5:H4 D2=some (.lst (ns.map V.int)):=by rw [hd4,en,ybb];rfl
       have lo:=zdR ns []
       rw [← ziM] at lo
       refine qz3 ?_
       refine (ea rfl (ea rfl (.inr ⟨D2,ns,rfl,SqL.of hd5,by omega,fun l1' hl1 => .inr ⟨l1',onceN [] ns,rfl,zab,by simp at lo;omega,fun l2 ms hl2 pm so => ?_⟩⟩)))
       have s1:Same H4 (upd H4 l1' (nmO P w l1' (onceN [] ns))):=Same.new hl1
       have s2:=s1.trans (Same.new (o := .lst (ms.map V.int)) hl2)
       have S:=sm4.trans s2
       refine ⟨D2,l2,_,ea rfl ⟨rfl,SqL.of (s2 _ _ hd5),SqL.of zab,zg6 _,zg6 _,ea rfl ?_⟩⟩
       have fin:=done _ (sm.trans S) (S _ _ hd) (hrows.same S)
       rw [← ints_rise pm so] at fin
       rw [if_neg (show ¬ false=true by decide),eqL_ints]
       refine ite2 (fun y => ?_) (fun y => ?_)
       ·rw [if_pos y] at fin
        exact (ea rfl fin)
       ·rw [if_neg y] at fin
        exact fin
      | false =>
       obtain ⟨ns,en⟩:=zed fk
       have ln:ns.length=rows.length:=by rw [← yaa (f:=zaO),en,yaa]
       have dec:decide (zbU rows)=decide ((ns.map (ycC:Str→Key)).Pairwise fun x y=>ltKey x y=true):=decide_eq_decide.mpr (by unfold zbU;rw [en])
       rw [dec] at done
       have hd5:H4 D2=some (.lst (ns.map V.str)):=by rw [hd4,en,ybb];rfl
       have lo:=zdR ns []
       rw [← zi3] at lo
       refine qz3 ?_
       refine (ea rfl (ea rfl (.inl ⟨D2,ns,rfl,SqL.of hd5,by omega,fun l1' hl1 => .inl ⟨l1',zcd [] ns,rfl,zab,by simp at lo;omega,fun l2 ms hl2 pm so => ?_⟩⟩)))
       have s1:Same H4 (upd H4 l1' (txO P w l1' (zcd [] ns))):=Same.new hl1
       have s2:=s1.trans (Same.new (o := .lst (ms.map V.str)) hl2)
       have S:=sm4.trans s2
       refine ⟨D2,l2,_,ea rfl ⟨rfl,SqL.of (s2 _ _ hd5),SqL.of zab,zdM _,zdM _,ea rfl ?_⟩⟩
       have fin:=done _ (sm.trans S) (S _ _ hd) (hrows.same S)
       rw [← strs_rise pm so] at fin
       rw [if_neg (show ¬ false=true by decide),eqL_strs2]
       refine ite2 (fun y => ?_) (fun y => ?_)
       ·rw [if_pos y] at fin
        exact (ea rfl fin)
       ·rw [if_neg y] at fin
        exact fin
end
theorem jz_many {z:List Nat} (hz:1≤z.length):∀ R:List (List Nat),R.length≤(jz z R).length+1
 | []=>ya2 _
 | [r]=>by simp
 | r :: r2 :: R=>by
  have ih:=jz_many hz (r2 :: R)
  show _≤(r++z++jz z (r2 :: R)).length+1
  rw [yao,yao]
  simp only [yal] at *
  omega
theorem zfz (x:Str) {z:Str} (hz:1≤z.cps.toList.length):(yaV x z).length≤x.length+1:=by
 have e:=zdb z (yaV x z)
 rw [sj] at e
 have:=jz_many hz ((yaV x z).map (·.cps.toList))
 rw [← e,yaa,zcT] at this
 exact this
def zjH (K:PySem.W.Frag) (C:Addr):Sp:=fun vs H Q _=>∃ (p:Addr) (tabs:List Tab) (ords:List Col) (v:V),vs = [.ref p,v]∧SchemaAt C H p tabs ords∧zcH tabs ∧
 ((∃ x:Str,v = .str x∧x.length≤9999∧∀ (r:V) (H':Hp),Same H H'→PageAt H H' (zeI tabs x) r→Q r H')∨(Thing K H v∧isSt v=false∧∀ H',Same H H'→Q .non H'))
theorem zin {tabs:List Tab} {x:Str} (h:¬ ycG x ";" = true):zeI tabs x=none:=if_neg h
theorem zgg {tabs:List Tab} {x:Str} (h:ycG x ";" = true):zeI tabs x=zcy tabs (yaV (ya3 x none (some (-1))) " | "):=if_pos h
theorem zbG {tabs:List Tab} {p:Str} {ps:List Str} (h:zch tabs (yaV p " ")=none):zcy tabs (p :: ps)=none:=by
 show (match zch tabs (yaV p " ") with | some (t,n,m)=>(zc1 t.2 ps).map fun rows=>(t.1,n,m,rows) | none=>none)=none
 rw [h]
theorem zcw {tabs:List Tab} {p:Str} {ps:List Str} {t:Tab} {n m:Int} (h:zch tabs (yaV p " ")=some (t,n,m)):zcy tabs (p :: ps)=(zc1 t.2 ps).map fun rows=>(t.1,n,m,rows):=by
 show (match zch tabs (yaV p " ") with | some (t,n,m)=>(zc1 t.2 ps).map fun rows=>(t.1,n,m,rows) | none=>none)=_
 rw [h]
theorem head_tab {tabs:List Tab} {ws:List Str} {t:Tab} {n m:Int} (h:zch tabs ws=some (t,n,m)):∃ (k:Nat) (hk:k < tabs.length),t=tabs[k]:=by
 by_cases z:ws.length=4
 ·match ws,z with
  | [a,b,c,d],_ =>
   rw [zbk] at h
   split at h
   ·cases e:tabs.find? (fun e=>decide (e.1=b)) with
    | none=>rw [e] at h;cases h
    | some u =>
     rw [e] at h
     dsimp only at h
     split at h
     ·cases h
      obtain ⟨k,hk,ek⟩:=ybU (List.mem_of_find?_eq_some e)
      exact ⟨k,hk,ek.symm⟩
     ·cases h
   ·cases h
 ·rw [zf6 z] at h
  cases h
section
variable {P:Program} {w:World} {K:PySem.W.Frag} {mg:Str→Option Value} {base:Heap}
theorem zfD (T:Txt K mg):FnOk P w K mg base CX0 8 T.page_in.f T.page_in.fd ["schema", "text"] (zjH K T.C_Schema):=by
 have G_head_in:FnOk P w K mg base CX0 7 T.head_in.f T.head_in.fd _ _:=zjM T
 have G_rows_in:FnOk P w K mg base CX0 7 T.rows_in.f T.rows_in.fd _ _:=zjO T
 have G_Schema_columns_of:FnOk P w K mg base CX0 3 T.Schema_columns_of.f T.Schema_columns_of.fd _ _:=zdh T
 refine T.page_in.fn.ok sc_page_in (fun vs H Q E h => ?_) (fun cdv A outer s H vs Q E hr h => ?_)
 ·obtain ⟨p,tabs,ords,v,rfl,_⟩:=h
  rfl
 ·obtain ⟨p,tabs,ords,v,rfl,hS,hok,h⟩:=h
  refine ⟨_,((zae (ps_if (PW.pt (pw_or (zbF (zbz (zak (za3 (K:=K) rfl) (by rfl) T.b_isinstance zaE (zaa (pv 1) (zaa (zbH (v := .ty "str") rfl T.b_str zdk rfl) zad))))) (zbn (zbF (zbz (zaY (K:=K) rfl yaQ PySem.F.slot_str_endswith PySem.F.type_str_endswith zis (pv 1) (zaa zay zad))))))) (zah (zao zaZ)) zau)
   (zae (zat (i:=2) sc_page_in.nd rfl (yaR rfl) (zaY (K:=K) rfl yaQ yb1 yb2 zcM (zax zcg (pv 1) zaJ (zaB (pe_un zdQ zaf))) (zaa (zbJ rfl T.c_BETWEEN_PARTS (T.r_BETWEEN_PARTS)) zad)))
   (zae (zat (i:=3) sc_page_in.nd rfl (yaR rfl) (zam G_head_in (hr.mono (by decide)) rfl (zaa (pv 0) (zaa (zaY (K:=K) rfl yaQ yb1 yb2 zcM (pe_ix (zaj (K:=K) rfl) (pv 2) zaf (fun _ _=>rfl)) (zaa zay zad)) zad))))
   (zae (ps_if (zc0 (zdl (pv 3))) (zah (zao zaZ)) zau)
   (zae (zat (i:=4) sc_page_in.nd rfl (yaR rfl) (zam G_rows_in (hr.mono (by decide)) rfl (zaa (pe_mown T.l_Schema G_Schema_columns_of (hr.mono (by decide)) (pv 0) (zaa (pe_ix (zaK (K:=K) rfl) (pv 3) zaf (fun _ _=>rfl)) zad)) (zaa (zax (za4 (K:=K) rfl) (pv 2) (zaB zaf) zaJ) zad))))
   (zah (zao (zcQ (zc0 (zdl (pv 4))) zaZ (zce (zaa (pe_ix (zaK (K:=K) rfl) (pv 3) zaf (fun _ _=>rfl)) (zaa (pe_ix (zaK (K:=K) rfl) (pv 3) zaf (fun _ _=>rfl)) (zaa (pe_ix (zaK (K:=K) rfl) (pv 3) zaf (fun _ _=>rfl)) (zaa (pv 4) zad)))))))))))))),?_⟩
  rcases h with ⟨x,rfl,hx,q⟩ | ⟨hv,hn,q⟩
  ·refine sq1 fun Rz1 qz1 => ?_
   refine (ea rfl ⟨_,_,_,ea rfl ⟨.str x,zbR,ea rfl (ite2 (fun z=>absurd z (by decide)) (fun _ => ?_))⟩⟩)
   refine (ea rfl ⟨rfl,_,ea rfl ⟨rfl,ea rfl ?_⟩⟩)
   by_cases he:ycG x ";" = true
   ·rw [he]
    refine ite2 (fun z=>absurd z (by decide)) (fun _ => ?_)
    rw [zgg he] at q
    have ls:=ycF x none (some (-1))
    have ls':(ya3 x none (some (-1))).length≤x.length:=ls
    refine qz1 (sq1 fun Rz2 qz2 => ?_)
    refine (ea rfl (ea rfl (ea rfl ⟨x,rfl,zac (show x.length≤100000 by omega),rfl,_,ea rfl ⟨rfl,(by decide +kernel),zac (show _+2≤100000 by omega),fun b hb => ?_⟩⟩)))
    have hs:∀ w'∈yaV (ya3 x none (some (-1))) " | ",w'.length≤10000:=fun w' hw'=>ya1 (part_short hw') (by omega)
    have hm:=zfz (ya3 x none (some (-1))) (z := " | ") (by rw [zcA];decide)
    have hne:=zee (ya3 x none (some (-1))) " | "
    generalize yaV (ya3 x none (some (-1))) " | " = ps at q hs hm hne ⊢
    generalize e1:upd H b _=H1
    have s1:Same H H1:=e1 ▸ Same.new hb
    have b1:H1 b=some (.lst (ps.map V.str)):=by rw [← e1];exact zab
    clear e1
    cases ps with
    | nil=>exact absurd rfl hne
    | cons u ps =>
     have lu:=hs u yat
     refine qz2 (sq1 fun Rz3 qz3 => ?_)
     refine (ea rfl (ea rfl (ixLc (SqL.of b1) at0 ⟨rfl,_,ea rfl ⟨rfl,(by decide +kernel),zac (show _+2≤100000 by omega),fun c hc => ?_⟩⟩)))
     generalize e2:upd H1 c _=H2
     have s2:Same H1 H2:=e2 ▸ Same.new hc
     have c2:H2 c=some (.lst ((yaV u " ").map V.str)):=by rw [← e2];exact zab
     clear e2
     have S2:=s1.trans s2
     refine ⟨p,c,tabs,ords,ea rfl ⟨hS.kept S2,hok,c2,fun w' hw'=>ya1 (part_short hw') lu,fun r H3 s3 h3 => ?_⟩⟩
     have S3:=S2.trans s3
     have b3:=s3 _ _ (s2 _ _ b1)
     cases eh:zch tabs (yaV u " ") with
     | none =>
      rw [eh] at h3
      have h3:r = .non:=h3
      subst h3
      refine qz3 ?_
      refine (ea rfl (ea rfl (ite2 (fun _ => ?_) (fun z=>absurd rfl z))))
      refine q _ H3 S3 ?_
      rw [zbG eh]
      rfl
     | some tnm =>
      obtain ⟨t,n,m⟩:=tnm
      obtain ⟨k,hk,rfl⟩:=head_tab eh
      rw [zcw eh] at q
      rw [eh] at h3
      obtain ⟨a,rfl,ha⟩:=h3
      refine qz3 (sq1 fun Rz4 qz4 => ?_)
      refine (ea rfl (ea rfl (ite2 (fun z=>absurd z (by simp)) (fun _ => ?_))))
      have hS3:=hS.kept S3
      obtain ⟨dx,tt,oo,dd,hp⟩:=hS3.obj
      have okt:=hok.2.2.1 _ (yam hk)
      refine qz4 ?_
      refine (ea rfl ⟨p,dx,ea rfl ⟨hp,no_cols ..,ea rfl (ixTc (SqT.of ha) rfl ⟨p,tabs,ords,k,hk,rfl,hS3,hok,fun l qs H4 hl s4 hL hC => ?_⟩)⟩⟩)
      have S4:=S3.trans s4
      refine (ea rfl (ea rfl ⟨b,ea rfl ⟨SqL.of (s4 _ _ b3),fun d hd => ?_⟩⟩))
      rw [show (1:Int)=((1:Nat):Int) from rfl,ziX (by rw [yaa,yal];omega)]
      generalize e5:upd H4 d _=H5
      have s5:Same H4 H5:=e5 ▸ Same.new hd
      have d5:H5 d=some (.lst (ps.map V.str)):=by rw [← e5];exact zab
      clear e5
      have S5:=S4.trans s5
      refine ⟨l,d,qs,_,ps,rfl,s5 _ _ hL,hC.same s5,okt.2.2.2.1,okt.2.1,okt.2.2.1,d5,fun w' hw'=>hs w' (yap _ hw'),by rw [yal] at hm;omega,fun r H6 s6 h6 => ?_⟩
      have S6:=S5.trans s6
      cases er:zc1 tabs[k].2 ps with
      | none =>
       rw [er] at h6
       have h6:r = .non:=h6
       subst h6
       refine (ea rfl (ea rfl (ite2 (fun _ => ?_) (fun z=>absurd rfl z))))
       refine q _ H6 S6 ?_
       rw [er]
       rfl
      | some rows =>
       rw [er] at h6 q
       obtain ⟨l6,as,rfl,f6,g6,r6⟩:=h6
       refine (ea rfl (ea rfl (ite2 (fun z=>absurd z (by simp)) (fun _ => ?_))))
       have ha6:=s6 _ _ (s5 _ _ (s4 _ _ ha))
       refine (ea rfl (ixTc (SqT.of ha6) rfl (ea rfl (ixTc (SqT.of ha6) rfl (ea rfl (ixTc (SqT.of ha6) rfl (ea rfl ⟨zac (show 4≤100000 by decide),fun a7 h7 => ?_⟩)))))))
       have s7:Same H6 (upd H6 a7 (.tup [.str tabs[k].1,.int n,.int m,.ref l6])):=Same.new h7
       exact q _ _ (S6.trans s7) ⟨a7,l6,as,rfl,S6.free h7,S5.free f6,zab,s7 _ _ g6,r6.same s7⟩
   ·rw [zin he] at q
    rw [show ycG x ";" = false from by simpa using he]
    refine ite2 (fun _ => ?_) (fun z=>absurd (by decide) z)
    exact q _ H (Same.refl H) rfl
  ·obtain ⟨t,ty,kt⟩:=zgC hv
   rw [hn] at kt
   refine (ea rfl ⟨_,_,_,ea rfl ⟨ty,kt,ea rfl (ite2 (fun _ => ?_) (fun z=>absurd (by decide) z))⟩⟩)
   exact q H (Same.refl H)
end
theorem canon {fg:Str} {f:List Nat} (hf:fg.cps.toList=f) (v:Nat):(V.str fg=V.str (ycf (toString ((v:Nat):Int))))↔f=digs v:=by
 have e:(ycf (toString ((v:Nat):Int))).cps.toList=digs v:=(zbC v).trans (zbw v)
 constructor
 ·intro h
  rw [← hf,V.str.inj h,e]
 ·intro h
  exact congrArg V.str (zcp (by rw [hf,e];exact h))
def odd (a x:Str):List V:=(x.cps.toList.filter fun c => !decide (c∈a.cps.toList)).map fun c=>V.str ⟨#[c]⟩
theorem odd_nil (a x:Str):eqL (odd a x) []=x.cps.toList.all fun c=>decide (c∈a.cps.toList):=by
 unfold odd
 cases h:x.cps.toList.all fun c=>decide (c∈a.cps.toList) with
 | true =>
  have e:(x.cps.toList.filter fun c => !decide (c∈a.cps.toList)) = []:=by
   rw [List.filter_eq_nil_iff]
   intro c hc
   rw [yaP.mp h c hc]
   decide
  rw [e];rfl
 | false =>
  cases e:(x.cps.toList.filter fun c => !decide (c∈a.cps.toList)) with
  | nil =>
   exfalso
   have:(x.cps.toList.all fun c=>decide (c∈a.cps.toList))=true:=by
    rw [yaP]
    intro c hc
    have:=List.filter_eq_nil_iff.mp e c hc
    simpa using this
   rw [this] at h;cases h
  | cons c r=>rfl
theorem ziL (a x:Str):(odd a x).all flatV=true:=by
 unfold odd
 rw [ycw]
 exact yaP.mpr fun _ _=>rfl
theorem ne_empty {x:Str}:(V.str x=V.str "")↔x.length=0:=by
 have e:("" : Str) = ⟨#[]⟩:=by decide +kernel
 rw [e]
 constructor
 ·intro h;cases (V.str.inj h);rfl
 ·intro h
  cases x with
  | mk c=>exact congrArg (fun c=>V.str ⟨c⟩) (Array.eq_empty_of_size_eq_zero h)
theorem dig_neg {l:List Nat} (h:l.all isDig=true):¬ neg l=true:=fun n=>by
 have e:=zdT n
 rw [e,yeI,yaL] at h
 exact absurd h.1 (by decide)
theorem neg_none {x:Str} (h:neg x.cps.toList=true):nat0 x=none:=by
 cases e:numIn x.cps.toList with
 | none=>exact zcE e
 | some n =>
  rw [zcG e]
  refine if_neg fun z => ?_
  unfold numIn at e
  split at e
  ·split at e
   ·rename_i c
    have e:=yas e
    have es:sgn x.cps.toList (yaY (figs x.cps.toList)) = -(yaY (figs x.cps.toList):Int):=if_pos h
    rw [es] at e c
    have v0:(yaY (figs x.cps.toList):Int)=0:=by omega
    have c1:=c.1
    rw [v0] at c1
    have c1:digs 0=x.cps.toList:=c1
    rw [← c1,zbB] at h
    exact absurd h (by decide)
   ·cases e
  ·cases e
theorem zel {x:Str} (h:¬ (x.cps.toList ≠ []∧x.cps.toList.length≤10∧x.cps.toList.all isDig=true)):nat0 x=none:=by
 by_cases hn:neg x.cps.toList=true
 ·exact neg_none hn
 ·refine zcE ?_
  have ef:figs x.cps.toList=x.cps.toList:=if_neg hn
  unfold numIn
  rw [ef,if_neg]
  rintro ⟨⟨a,b⟩,c⟩
  exact h ⟨fun z=>by rw [z] at a;exact absurd a (by decide),b,c⟩
theorem zgT {x:Str} (h1:x.cps.toList ≠ []) (h2:x.cps.toList.length≤10) (h3:x.cps.toList.all isDig=true):nat0 x=if x.cps.toList=digs (yaY x.cps.toList)∧yaY x.cps.toList≤1000000000 then some (yaY x.cps.toList:Int) else none:=by
 have hn:=dig_neg h3
 have ef:figs x.cps.toList=x.cps.toList:=if_neg hn
 have es:sgn x.cps.toList (yaY x.cps.toList)=(yaY x.cps.toList:Int):=if_neg hn
 have l1:1≤x.cps.toList.length:=by
  cases e:x.cps.toList with
  | nil=>exact absurd e h1
  | cons=>simp
 have en:numIn x.cps.toList=if x.cps.toList=digs (yaY x.cps.toList)∧yaY x.cps.toList≤1000000000 then some (yaY x.cps.toList:Int) else none:=by
  unfold numIn
  rw [ef,if_pos ⟨⟨l1,h2⟩,h3⟩,es,zbw]
  by_cases c:x.cps.toList=digs (yaY x.cps.toList)∧yaY x.cps.toList≤1000000000
  ·rw [if_pos c,if_pos ⟨c.1.symm,by omega,by omega⟩]
  ·rw [if_neg c,if_neg]
   rintro ⟨a,_,b⟩
   exact c ⟨a.symm,by omega⟩
 by_cases c:x.cps.toList=digs (yaY x.cps.toList)∧yaY x.cps.toList≤1000000000
 ·rw [if_pos c] at en ⊢
  rw [zcG en,if_pos (by omega)]
 ·rw [if_neg c] at en ⊢
  exact zcE en
theorem num_pos {x:Str} (h:¬ neg x.cps.toList=true):numIn x.cps.toList=nat0 x:=by
 cases e:numIn x.cps.toList with
 | none=>rw [zcE e]
 | some n =>
  rw [zcG e,if_pos]
  unfold numIn at e
  split at e
  ·split at e
   ·have e:=yas e
    have es:sgn x.cps.toList (yaY (figs x.cps.toList))=(yaY (figs x.cps.toList):Int):=if_neg h
    rw [es] at e
    omega
   ·cases e
  ·cases e
theorem num_minus {x y:Str} (h:neg x.cps.toList=true) (hy:y.cps.toList=figs x.cps.toList):numIn x.cps.toList=match nat0 y with
  | some n=>if x.cps.toList = [45,48] then none else some (-n)
  | none=>none:=by
 have ex:x.cps.toList=45 :: figs x.cps.toList:=by
  have:figs x.cps.toList=x.cps.toList.drop 1:=if_pos h
  rw [this]
  exact zdT h
 have es:sgn x.cps.toList (yaY (figs x.cps.toList)) = -(yaY (figs x.cps.toList):Int):=if_pos h
 unfold numIn
 rw [es]
 generalize figs x.cps.toList=f at ex hy ⊢
 rw [ex]
 by_cases a:(1≤f.length∧f.length≤10)∧f.all isDig=true
 ·rw [if_pos a]
  have nr:=zgT (x:=y) (by rw [hy];intro z;rw [z] at a;exact absurd a.1.1 (by decide)) (by rw [hy];exact a.1.2) (by rw [hy];exact a.2)
  rw [hy] at nr
  rw [nr]
  by_cases c:f=digs (yaY f)∧yaY f≤1000000000
  ·rw [if_pos c]
   dsimp only
   by_cases v0:yaY f=0
   ·have ef:f = [48]:=by
     have:=c.1
     rw [v0,zbB] at this
     exact this
    rw [if_neg (fun z => ?_),if_pos (by rw [ef])]
    have z:=z.1
    rw [v0] at z
    have z:digs 0=45 :: f:=z
    rw [zbB] at z
    exact absurd (ybY z).1 (by decide)
   ·rw [if_pos ⟨by rw [zbq _ (by omega),← c.1],by omega,by omega⟩,if_neg (fun z => ?_)]
    ·have ef:f = [48]:=(ybY z).2
     have:=val_back 0
     rw [zbB,← ef] at this
     exact v0 this
  ·rw [if_neg c]
   dsimp only
   refine if_neg ?_
   rintro ⟨z,b1,_⟩
   by_cases v0:yaY f=0
   ·rw [v0] at z
    have z:digs 0=45 :: f:=z
    rw [zbB] at z
    exact absurd (ybY z).1 (by decide)
   ·rw [zbq _ (by omega)] at z
    exact c ⟨(ybY z).2.symm,by omega⟩
 ·rw [if_neg a,zel]
  rintro ⟨b1,b2,b3⟩
  rw [hy] at b1 b2 b3
  refine a ⟨⟨?_,b2⟩,b3⟩
  cases f with
  | nil=>exact absurd rfl b1
  | cons=>simp
def zfh:Sp:=fun vs H Q _=>∃ x:Str,vs = [.str x]∧x.length≤10000∧∀ H',Same H H'→Q (optV (nat0 x)) H'
section
variable {P:Program} {w:World} {K:PySem.W.Frag} {mg:Str→Option Value} {base:Heap}
theorem zdn (T:Txt K mg):FnOk P w K mg base CX0 1 T._law_number.f T._law_number.fd ["_law_word"] zfh:=by
 refine T._law_number.fn.ok zfo (fun vs H Q E h => ?_) (fun cdv A outer s H vs Q E hr h => ?_)
 ·obtain ⟨x,rfl,_⟩:=h
  rfl
 ·obtain ⟨x,rfl,hx,k⟩:=h
  have hu0:=hr.units0
  refine ⟨_,((zae (ps_if (PW.pt (pw_or (zan op_eq (pv 0) zay (zaA _)) (pw_or (zan op_gt (zak za8 (by rfl) T.b_len za0 (zaa (pv 0) zad)) zaf (zaA _)) (zbn (zan (op_neLK (K:=K) rfl hu0) (zaR (N := ["_law_sign"]) (own:=1) (caps := []) rfl (by kernel_rfl) (by kernel_rfl) (pi_str (pv 0)) (fun _ _ _ _ _=>zal (i:=0) (show List.Nodup (["_law_sign"]:List Str) by decide +kernel) rfl (yaR rfl)) (fun _ _ _ _ _=>(zgh (zan zd5 (pv 0) zay (by with_unfolding_all rfl)))) (fun _ _ _ _ _=>(pv 0))) (zaS zad) (zaA _)))))) (zah (zao zaZ)) zau)
   (zae (ps_if (PW.pt (pw_or (zan op_ne (pv 0) (zav zcj (by rfl) T.b_str zdk (zaa (zav zb2 (by rfl) T.b_int zdO (zaa (pv 0) zad)) zad)) (zaA _)) (zbn (zan op_gt (zav zb2 (by rfl) T.b_int zdO (zaa (pv 0) zad)) (pe_op zd7 zaf zaf) (zaA _))))) (zah (zao zaZ)) zau)
   (zah (zao (zav zb2 (by rfl) T.b_int zdO (zaa (pv 0) zad))))))),?_⟩
  have hlen:=zcf x
  have knone:nat0 x=none→∀ H',Same H H'→Q .non H':=fun e H' s'=>by
   have:=k H' s'
   rw [e] at this
   exact this
  refine sq1 fun Rz1 qz1 => ?_
  refine (ea rfl ⟨rfl,ea rfl ?_⟩)
  refine ite2 (fun a1 => ?_) (fun a1 => ?_)
  ·have a1:=ne_empty.mp (of_decide_eq_true a1)
   refine knone (zel fun z=>z.1 (List.eq_nil_of_length_eq_zero (by omega))) H (Same.refl H)
  ·have a1:=fun z=>a1 (decide_eq_true (ne_empty.mpr z))
   have hne:x.cps.toList ≠ []:=fun e=>a1 (by rw [e] at hlen;exact hlen.symm)
   refine (ea rfl (ea rfl ⟨zac (by omega),_,ea rfl ⟨rfl,ea rfl ?_⟩⟩))
   refine ite2 (fun a2 => ?_) (fun a2 => ?_)
   ·have a2:=of_decide_eq_true a2
    exact knone (zel fun z=>by have:=z.2.1;omega) H (Same.refl H)
   ·have a2:x.cps.toList.length≤10:=by
     refine ydL fun z=>a2 (decide_eq_true ?_)
     omega
    refine (ea rfl (ea rfl (fun D hD => ?_)))
    refine zaz (J:=Its x) x.cps.size (fun i τ H2=>∃ v,τ = [v]∧Same H H2∧H2 D=some (.lst (((x.cps.toList.take i).filter fun c => !decide (c∈("0123456789" : Str).cps.toList)).map fun c=>V.str ⟨#[c]⟩)))
     ?_ (fun i τ H2 hi _=>hi) (fun τ H2 _=>yag _) ?_ ?_
    ·exact ⟨none,rfl,Same.new hD,zab⟩
    ·rintro i τ H2 y H3 hi ⟨v,rfl,sm,hd⟩ ⟨rfl,c,hc,rfl⟩
     have e:x.cps.toList[i]? = some c:=by simpa using hc
     have et:x.cps.toList.take (i+1)=x.cps.toList.take i ++ [c]:=by rw [ybc,e];rfl
     refine (ea rfl ⟨_,ea rfl ⟨rfl,ea rfl ?_⟩⟩)
     rw [StrLaws.found_one]
     refine ite2 (fun b1 => ?_) (fun b1 => ?_)
     ·refine (ea rfl ⟨_,hd,?_,ea rfl ⟨sm.upd hD,?_⟩⟩)
      ·rw [yaa]
       refine zai (ydi (List.length_filter_le _ _) ?_)
       rw [yaj]
       omega
      ·rw [zab,et,yd7,yeC,if_pos b1,ye6,yah]
       rfl
     ·refine (ea rfl ⟨sm,?_⟩)
      rw [hd,et,yd7,yeC,if_neg b1,ye6,ycZ]
    ·rintro τ H2 ⟨v,rfl,sm,hd⟩
     rw [yaA (by simp)] at hd
     have hd:H2 D=some (.lst (odd "0123456789" x)):=hd
     refine ⟨ya2 _,fun D2 hD2 => ?_⟩
     have n2:D≠D2:=za7 hd hD2
     refine ⟨_,_,_,ea rfl ⟨rfl,SqL.of (by rw [zar n2];exact hd),SqL.of zab,ziL _ _,rfl,ea rfl ?_⟩⟩
     rw [if_pos rfl,odd_nil,show (fun c=>decide (c∈("0123456789" : Str).cps.toList))=isDig from funext zeD]
     have s2:Same H (upd H2 D2 (.lst [])):=sm.upd (sm.free hD2)
     generalize upd H2 D2 (.lst [])=H3 at s2 ⊢
     refine ite2 (fun a3 => ?_) (fun a3 => ?_)
     ·refine knone (zel fun z => ?_) _ s2
      have a3:x.cps.toList.all isDig=false:=by simpa using a3
      rw [z.2.2] at a3
      cases a3
     ·have hdg:x.cps.toList.all isDig=true:=by simpa using a3
      have nr:=zgT hne a2 hdg
      have hv:=val_lt hdg
      have hv2:yaY x.cps.toList < 1000000000000:=yaT hv (ya1 (Nat.pow_le_pow_right (by decide) a2) (by decide))
      have hint:=int_figs hdg hne (by omega)
      refine qz1 (sq1 fun Rz2 qz2 => ?_)
      refine (ea rfl (ea rfl ⟨_,ea rfl ⟨(by omega),hint,ea rfl ⟨zcB (by rw [yfm];exact hv2),rfl,ea rfl ?_⟩⟩⟩))
      refine ite2 (fun a5 => ?_) (fun a5 => ?_)
      ·refine knone ?_ _ s2
       simp only [ycs,decide_eq_false_iff_not] at a5
       rw [nr,if_neg]
       rintro ⟨z,_⟩
       exact a5 ((canon rfl _).mpr z)
      ·simp only [ycs,decide_eq_false_iff_not,yej] at a5
       have ec:x.cps.toList=digs (yaY x.cps.toList):=(canon rfl _).mp a5
       refine (ea rfl ⟨_,ea rfl ⟨(by omega),hint,_,ea rfl ⟨rfl,cpow,_,ea rfl ⟨rfl,ea rfl ?_⟩⟩⟩⟩)
       refine ite2 (fun a6 => ?_) (fun a6 => ?_)
       ·refine knone ?_ _ s2
        have a6:(1000000000:Int) < (yaY x.cps.toList:Int):=of_decide_eq_true a6
        rw [nr,if_neg]
        rintro ⟨_,z⟩
        omega
       ·have a6:¬ (1000000000:Int) < (yaY x.cps.toList:Int):=fun z=>a6 (decide_eq_true z)
        have kk:=k _ s2
        rw [nr,if_pos ⟨ec,by omega⟩] at kk
        refine qz2 ?_
        exact (ea rfl ⟨_,ea rfl ⟨(by omega),hint,kk⟩⟩)
end
def zec:Sp:=fun vs H Q _=>∃ k x:Str,vs = [.str k,.str x]∧(k = "number"∨k = "word")∧x.length≤10000∧∀ H',Same H H'→Q (valIn k x) H'
def zft:Sp:=fun vs H Q _=>∃ (a:Addr) (p:Str) (qs:List Addr) (cs:List Col),vs = [.ref a,.str p]∧H a=some (.lst (qs.map V.ref))∧ColsAt H qs cs∧(∀ c∈cs,okCol c)∧cs.length≤4∧p.length≤10000 ∧
 ∀ (r:V) (H':Hp),Same H H'→RowO H' (zbE cs (yaV p " ")) r→Q r H'
theorem nat0_nn {x:Str} {n:Int} (h:nat0 x=some n):0≤n∧n≤1000000000:=by
 cases e:numIn x.cps.toList with
 | none=>rw [zcE e] at h;cases h
 | some m =>
  rw [zcG e] at h
  split at h
  ·cases h
   have:=num_of e
   omega
  ·cases h
theorem word_all (x:Str):eqL (odd "abcdefghijklmnopqrstuvwxyz" x) []=x.cps.toList.all isLow:=by
 rw [odd_nil,show (fun c=>decide (c∈("abcdefghijklmnopqrstuvwxyz" : Str).cps.toList))=isLow from funext ze6]
section
variable {P:Program} {w:World} {K:PySem.W.Frag} {mg:Str→Option Value} {base:Heap}
theorem zea (T:Txt K mg):FnOk P w K mg base CX0 2 T._law_value_in.f T._law_value_in.fd ["_law_kind", "_law_word"] zec:=by
 have G__law_number:FnOk P w K mg base CX0 1 T._law_number.f T._law_number.fd _ _:=zdn T
 refine T._law_value_in.fn.ok sc__law_value_in (fun vs H Q E h => ?_) (fun cdv A outer s H vs Q E hr h => ?_)
 ·obtain ⟨kd,x,rfl,_⟩:=h
  rfl
 ·obtain ⟨kd,x,rfl,hk,hx,k⟩:=h
  have hu0:=hr.units0
  have hlen:=zcf x
  refine ⟨_,((zae (ps_if (zan op_eq (pv 0) zay (zaA _)) (zae (ps_if (PW.pt (zg1 (zgo op_le op_le zaf (zak za8 (by rfl) T.b_len za0 (zaa (pv 1) zad)) zaf) (zeo (zan (op_eqLK (K:=K) rfl hu0) (zaR (N := ["_law_sign"]) (own:=1) (caps := []) rfl (by kernel_rfl) (by kernel_rfl) (pi_str (pv 1)) (fun _ _ _ _ _=>zal (i:=0) (show List.Nodup (["_law_sign"]:List Str) by decide +kernel) rfl (yaR rfl)) (fun _ _ _ _ _=>(zgh (zan zd5 (pv 0) zay (by with_unfolding_all rfl)))) (fun _ _ _ _ _=>(pv 0))) (zaS zad) (zaA _))))) (zah (zao (pv 1))) zau)
   (zah (zao zaZ))) zau)
   (zae (zat (i:=2) sc__law_value_in.nd rfl (yaR rfl) (zam G__law_number (hr.mono (by decide)) rfl (zaa (pe_ix (zaj (K:=K) rfl) (zaS (zaa (pv 1) (zaa (zax zcg (pv 1) (zaB zaf) zaJ) zad))) (zav zdE (by rfl) T.b_int zdO (zaa (zaY (K:=K) rfl yaQ ydo ydp zcK (pv 1) (zaa zay zad)) zad)) (fun _ _=>rfl)) zad)))
   (zae (ps_if (PW.pt (pw_or (zc0 (zdl (pv 2))) (zbn (zan op_eq (pv 1) zay (zaA _))))) (zah (zao zaZ)) zau)
   (zah (zao (pe_op zdP (pv 2) (pe_ix (zaj (K:=K) rfl) (zaS (zaa zaf (zaa (pe_un zdQ zaf) zad))) (zav zdE (by rfl) T.b_int zdO (zaa (zaY (K:=K) rfl yaQ ydo ydp zcK (pv 1) (zaa zay zad)) zad)) (fun _ _=>rfl))))))))),?_⟩
  refine sq1 fun Rz1 qz1 => ?_
  refine (ea rfl ⟨rfl,ea rfl ?_⟩)
  rcases hk with rfl | rfl
  ·refine ite2 (fun z=>absurd z (by decide +kernel)) (fun _ => ?_)
   have k:∀ H',Same H H'→Q (optV (numIn x.cps.toList)) H':=k
   refine qz1 (sq1 fun Rz2 qz2 => ?_)
   refine (ea rfl (ea rfl (ea rfl ⟨x,rfl,zac (show x.length≤100000 by omega),zac (show 2≤100000 by decide),fun b hb => ?_⟩)))
   generalize e1:upd H b _=H1
   have s1:Same H H1:=e1 ▸ Same.new hb
   have b1:H1 b=some (.lst [.str x,.str (ya3 x (some 1) none)]):=by rw [← e1];exact zab
   clear e1
   by_cases hn:neg x.cps.toList=true
   ·have hf:(ya3 x (some 1) none).cps.toList=figs x.cps.toList:=by
     have e:=zdT hn
     have:1≤x.length:=by rw [← hlen,e];simp
     rw [zgP this]
     exact (if_pos hn).symm
    have hs:(ya3 x (some 1) none).length≤10000:=ya1 (ycF x _ _) hx
    rw [num_minus hn hf] at k
    refine (ea rfl ⟨rfl,_,ea rfl ⟨rfl,.inr (ea rfl (ixL (SqL.of b1) (by rw [zcz,hn];rfl) (ea rfl ⟨hs,fun H2 s2 => ?_⟩)))⟩⟩)
    have S2:=s1.trans s2
    cases e:nat0 (ya3 x (some 1) none) with
    | none =>
     rw [e] at k
     refine qz2 ?_
     exact (ea rfl (ea rfl (ite2 (fun _=>k _ S2) (fun z=>absurd rfl z))))
    | some n =>
     rw [e] at k
     dsimp only at k
     have n0:=nat0_nn e
     refine qz2 (sq1 fun Rz3 qz3 => ?_)
     refine (ea rfl (ea rfl (ite2 (fun z=>absurd z (by simp [optV])) (fun _ => ?_))))
     refine (ea rfl ⟨rfl,ea rfl (ite2 (fun z => ?_) (fun z => ?_))⟩)
     ·have z:=V.str.inj (of_decide_eq_true z)
      have k2:=k _ S2
      rw [if_pos (by rw [z];decide +kernel)] at k2
      exact k2
     ·have z:¬ x.cps.toList = [45,48]:=fun y=>z (decide_eq_true (congrArg V.str (zcp (y.trans (show [45,48]=("-0" : Str).cps.toList by decide +kernel)))))
      refine qz3 ?_
      refine (ea rfl (ea rfl ⟨zac (show 2≤100000 by decide),fun c hc => ?_⟩))
      refine (ea rfl ⟨rfl,_,ea rfl ⟨rfl,.inr (ea rfl (ixL (SqL.of zab) (by rw [zcz,hn];rfl) ⟨_,ea rfl ⟨rfl,.inl ⟨by omega,by omega⟩,?_⟩⟩))⟩⟩)
      have k2:=k _ (S2.trans (Same.new (o := .lst [.int 1,.int (-1)]) hc))
      rw [if_neg z] at k2
      refine qv_of (Q:=Q) k2 ?_
      show V.int (-n)=V.int (n*(-1))
      rw [show n*(-1) = -n by omega]
   ·rw [num_pos hn] at k
    have hn':neg x.cps.toList=false:=by simpa using hn
    refine (ea rfl ⟨rfl,_,ea rfl ⟨rfl,.inr (ea rfl (ixL (SqL.of b1) (by rw [zcz,hn'];rfl) (ea rfl ⟨hx,fun H2 s2 => ?_⟩)))⟩⟩)
    have S2:=s1.trans s2
    cases e:nat0 x with
    | none =>
     rw [e] at k
     refine qz2 ?_
     exact (ea rfl (ea rfl (ite2 (fun _=>k _ S2) (fun z=>absurd rfl z))))
    | some n =>
     rw [e] at k
     have n0:=nat0_nn e
     refine qz2 (sq1 fun Rz4 qz4 => ?_)
     refine (ea rfl (ea rfl (ite2 (fun z=>absurd z (by simp [optV])) (fun _ => ?_))))
     refine (ea rfl ⟨rfl,ea rfl (ite2 (fun z => ?_) (fun z => ?_))⟩)
     ·have z:=V.str.inj (of_decide_eq_true z)
      rw [z] at hn'
      exact absurd hn' (by decide +kernel)
     ·refine qz4 ?_
      refine (ea rfl (ea rfl ⟨zac (show 2≤100000 by decide),fun c hc => ?_⟩))
      refine (ea rfl ⟨rfl,_,ea rfl ⟨rfl,.inr (ea rfl (ixL (SqL.of zab) (by rw [zcz,hn'];rfl) ⟨_,ea rfl ⟨rfl,.inl ⟨by omega,by omega⟩,?_⟩⟩))⟩⟩)
      have k2:=k _ (S2.trans (Same.new (o := .lst [.int 1,.int (-1)]) hc))
      refine qv_of (Q:=Q) k2 ?_
      show V.int n=V.int (n*1)
      rw [show n*1=n by omega]
  ·refine ite2 (fun _ => ?_) (fun z=>absurd (decide_eq_true rfl) z)
   have k:∀ H',Same H H'→Q (wordV x) H':=fun H' s'=>k H' s'
   have kn:isNm x=false→∀ H',Same H H'→Q .non H':=fun e H' s'=>by
    have:=k H' s'
    unfold wordV at this
    rw [e] at this
    exact this
   refine (ea rfl (ea rfl ⟨zac (by omega),_,ea rfl ⟨rfl,ea rfl ?_⟩⟩))
   refine ite2 (fun h1 => ?_) (fun h1 => ?_)
   ·have h1:(1:Int)≤(x.length:Int):=of_decide_eq_true h1
    refine ⟨_,ea rfl ⟨rfl,ea rfl ?_⟩⟩
    refine ite2 (fun h2 => ?_) (fun h2 => ?_)
    ·have h2:(x.length:Int)≤8:=of_decide_eq_true h2
     refine (ea rfl (ea rfl (fun D hD => ?_)))
     refine zaz (J:=Its x) x.cps.size (fun i τ H2=>∃ v,τ = [v]∧Same H H2∧H2 D=some (.lst (((x.cps.toList.take i).filter fun c => !decide (c∈("abcdefghijklmnopqrstuvwxyz" : Str).cps.toList)).map fun c=>V.str ⟨#[c]⟩)))
      ?_ (fun i τ H2 hi _=>hi) (fun τ H2 _=>yag _) ?_ ?_
     ·exact ⟨none,rfl,Same.new hD,zab⟩
     ·rintro i τ H2 y H3 hi ⟨v,rfl,sm,hd⟩ ⟨rfl,c,hc,rfl⟩
      have e:x.cps.toList[i]? = some c:=by simpa using hc
      have et:x.cps.toList.take (i+1)=x.cps.toList.take i ++ [c]:=by rw [ybc,e];rfl
      refine (ea rfl ⟨_,ea rfl ⟨rfl,ea rfl ?_⟩⟩)
      rw [StrLaws.found_one]
      refine ite2 (fun b1 => ?_) (fun b1 => ?_)
      ·refine (ea rfl ⟨_,hd,?_,ea rfl ⟨sm.upd hD,?_⟩⟩)
       ·rw [yaa]
        refine zai (ydi (List.length_filter_le _ _) ?_)
        rw [yaj]
        omega
       ·rw [zab,et,yd7,yeC,if_pos b1,ye6,yah]
        rfl
      ·refine (ea rfl ⟨sm,?_⟩)
       rw [hd,et,yd7,yeC,if_neg b1,ye6,ycZ]
     ·rintro τ H2 ⟨v,rfl,sm,hd⟩
      rw [yaA (by simp)] at hd
      have hd:H2 D=some (.lst (odd "abcdefghijklmnopqrstuvwxyz" x)):=hd
      refine ⟨ya2 _,fun D2 hD2 => ?_⟩
      have n2:D≠D2:=za7 hd hD2
      refine ⟨_,_,_,ea rfl ⟨rfl,SqL.of (by rw [zar n2];exact hd),SqL.of zab,ziL _ _,rfl,ea rfl ?_⟩⟩
      rw [if_neg (show ¬ false=true by decide),word_all]
      have s2:Same H (upd H2 D2 (.lst [])):=sm.upd (sm.free hD2)
      have nm:isNm x=x.cps.toList.all isLow:=by
       unfold isNm
       rw [decide_eq_true (by omega:1≤x.length),decide_eq_true (by omega:x.length≤8),Bool.and_self,ydv]
      rw [← nm]
      refine ite2 (fun a3 => ?_) (fun a3 => ?_)
      ·have:=k _ s2
       unfold wordV at this
       rw [if_pos a3] at this
       exact (ea rfl this)
      ·exact kn (by simpa using a3) _ s2
    ·have h2:¬ (x.length:Int)≤8:=fun z=>h2 (decide_eq_true z)
     refine kn ?_ H (Same.refl H)
     unfold isNm
     rw [decide_eq_false (by omega:¬ x.length≤8),yfo,ycD]
   ·have h1:¬ (1:Int)≤(x.length:Int):=fun z=>h1 (decide_eq_true z)
    refine (ea rfl (iteF (kn ?_ H (Same.refl H))))
    unfold isNm
    rw [decide_eq_false (by omega:¬ 1≤x.length),ycD,ycD]
theorem zfj (T:Txt K mg):FnOk P w K mg base CX0 3 T._law_row_in.f T._law_row_in.fd ["_law_columns", "_law_part"] zft:=by
 have G__law_value_in:FnOk P w K mg base CX0 2 T._law_value_in.f T._law_value_in.fd _ _:=zea T
 refine T._law_row_in.fn.ok sc__law_row_in (fun vs H Q E h => ?_) (fun cdv A outer s H vs Q E hr h => ?_)
 ·obtain ⟨a,p,qs,cs,rfl,_⟩:=h
  rfl
 ·obtain ⟨a,p,qs,cs,rfl,ha0,hc0,okc,l4,hp,q0⟩:=h
  have lq:qs.length=cs.length:=yaz hc0
  refine ⟨_,((zae (zat (i:=2) sc__law_row_in.nd rfl (yaR rfl) (zaY (K:=K) rfl yaQ yb1 yb2 zcM (pv 1) (zaa zay zad)))
   (zae (ps_if (zan op_ne (zak (zap (K:=K) rfl) (by rfl) T.b_len za0 (zaa (pv 2) zad)) (zak (zap (K:=K) rfl) (by rfl) T.b_len za0 (zaa (pv 0) zad)) (zaA _)) (zah (zao zaZ)) zau)
   (zae (zdo (i:=3) sc__law_row_in.nd rfl (yaR rfl) (N := ["_law_name", "_law_kind", "_law_word"]) (own:=3) (caps := []) rfl (by kernel_rfl) (by kernel_rfl) (pi_zipL (K:=K) rfl rfl T.b_zip (zaa (pv 0) (zaa (pv 2) zad))) (fun _ _ _ _ _=>(zbL (K:=K) (n:=2) rfl rfl (zaC ((zbL (K:=K) (n:=2) rfl rfl (zaC (zal (i:=0) (show List.Nodup (["_law_name", "_law_kind", "_law_word"]:List Str) by decide +kernel) rfl (yaR rfl)) (zaC (zal (i:=1) (show List.Nodup (["_law_name", "_law_kind", "_law_word"]:List Str) by decide +kernel) rfl (yaR rfl)) zbM)))) (zaC (zal (i:=2) (show List.Nodup (["_law_name", "_law_kind", "_law_word"]:List Str) by decide +kernel) rfl (yaR rfl)) zbM)))) (fun _ _ _ _ _=>zaM) (fun _ _ _ _ _=>(zam G__law_value_in (hr.mono (by decide)) rfl (zaa (pv 1) (zaa (pv 2) zad)))))
   (zae (ps_if (zan (zcF (K:=K) rfl) zaZ (pv 3) (by with_unfolding_all rfl)) (zah (zao zaZ)) zau)
   (zah (zao (zav (zbl (K:=K) rfl) (by rfl) T.b_tuple zbT (zaa (pv 3) zad))))))))),?_⟩
  refine sq1 fun Rz6 qz6 => ?_
  refine (ea rfl ⟨rfl,_,ea rfl ⟨rfl,(by decide +kernel),zac (show _+2≤100000 by omega),fun b hb0 => ?_⟩⟩)
  have hw:∀ w'∈yaV p " ",w'.length≤10000:=fun w' hw'=>ya1 (part_short hw') hp
  generalize yaV p " " = ws at hw q0 ⊢
  generalize e0:upd H b _=H0
  have s0:Same H H0:=e0 ▸ Same.new hb0
  have hb:H0 b=some (.lst (ws.map V.str)):=by rw [← e0];exact zab
  clear e0
  have ha:=s0 _ _ ha0
  have hc:=hc0.same s0
  have q:∀ (r:V) (H':Hp),Same H0 H'→RowO H' (zbE cs ws) r→Q r H':=fun r H' s' h'=>q0 r H' (s0.trans s') h'
  clear q0
  refine qz6 (sq1 fun Rz7 qz7 => ?_)
  refine (ea rfl ⟨b,ea rfl ⟨.inl (SqL.of hb),ea rfl ⟨a,ea rfl ⟨.inl (SqL.of ha),rfl,ea rfl ?_⟩⟩⟩⟩)
  rw [yaa,yaa]
  refine ite2 (fun z => ?_) (fun z => ?_)
  ·refine q _ H0 (Same.refl H0) ?_
   have e:¬ ws.length=cs.length:=fun y=>by rw [y,lq] at z;simp at z
   unfold zbE
   rw [if_neg e]
   rfl
  ·have en:ws.length=qs.length:=by
    by_cases y:ws.length=qs.length
    ·exact y
    ·exact absurd (by simp;omega) z
   refine qz7 (sq1 fun Rz8 qz8 => ?_)
   refine (ea rfl (ea rfl ⟨a,b,rfl,⟨_,SqL.of ha⟩,⟨_,SqL.of hb⟩,fun D hD => ?_⟩))
   refine zaz (J:=ItzL K a b) qs.length (fun j τ H2=>∃ v1 v2 v3,τ = [v1,v2,v3]∧Same H0 H2∧H2 D=some (.lst (((cs.zip ws).take j).map fun p=>valIn p.1.2 p.2))) ?_ ?_ ?_ ?_ ?_
   ·exact ⟨none,none,none,rfl,Same.new hD,zab⟩
   ·rintro j τ H2 hj ⟨_,_,_,_,sm,_⟩
    exact ⟨_,_,.ref qs[j],.str (ws[j]'(by omega)),SqL.of (sm _ _ ha),SqL.of (sm _ _ hb),by rw [yae,yab hj];rfl,by rw [yae,yab];rfl⟩
   ·rintro τ H2 ⟨_,_,_,_,sm,_⟩
    exact ⟨_,SqL.of (sm _ _ ha),by rw [yaa],_,SqL.of (sm _ _ hb)⟩
   ·rintro j τ H2 x H3 hj ⟨v1,v2,v3,rfl,sm,hd⟩ ⟨u,x',y',hu,rfl,rfl,hx',hy'⟩
    have e1:=hx' _ (SqL.of (sm _ _ ha))
    rw [yae,yab hj] at e1
    cases e1
    have hj2:j < ws.length:=by omega
    have hj3:j < cs.length:=by omega
    have e2:=hy' _ (SqL.of (sm _ _ hb))
    rw [yae,yab hj2] at e2
    cases e2
    have s3:Same H2 (upd H2 u (.tup [.ref qs[j],.str ws[j]])):=Same.new hu
    refine ⟨u,ea rfl ⟨SqT.of zab,rfl,_,ea rfl ⟨qs[j],ea rfl ⟨SqT.of (s3 _ _ (sm _ _ (Paired.at hc j hj hj3))),rfl,_,ea rfl ⟨_,ea rfl ⟨rfl,_,ea rfl ⟨rfl,?_⟩⟩⟩⟩⟩⟩⟩
    refine (ea rfl (ea rfl ⟨_,ea rfl ⟨(okc _ (yam hj3)).2,hw _ (yam hj2),fun H5 s5 => ?_⟩⟩))
    have S5:Same H2 H5:=s3.trans s5
    refine ⟨_,S5 _ _ hd,?_,_,_,ea rfl ⟨(sm.trans S5).upd hD,?_⟩⟩
    ·rw [yaa,yaj]
     exact zai (by omega)
    ·have hz:(cs.zip ws)[j]? = some (cs[j],ws[j]):=by rw [yab (by rw [ycl];omega),ydO]
     rw [zab,ybc,hz,yah]
     rfl
   ·rintro τ H2 ⟨v1,v2,v3,rfl,sm,hd⟩
    rw [yaA (by rw [ycl];omega)] at hd
    refine qz8 (sq1 fun Rz9 qz9 => ?_)
    refine (ea rfl ⟨D,ea rfl ⟨.inl (SqL.of hd),rfl,?_,ea rfl ?_⟩⟩)
    ·rw [ycw]
     exact yaP.mpr fun p _=>zfF _ _
    ·show if (if false=true then _ else _)=true then _ else _
     rw [if_neg (show ¬ false=true by decide),zfV]
     have vi:∀ o,(if V.non∈(cs.zip ws).map (fun p=>valIn p.1.2 p.2) then none else some ((cs.zip ws).map fun p=>valIn p.1.2 p.2))=o→zbE cs ws=o:=fun o e=>by
      unfold zbE
      rw [if_pos (by omega)]
      exact e
     refine ite2 (fun z => ?_) (fun z => ?_)
     ·have z:=of_decide_eq_true z
      refine q _ H2 sm ?_
      rw [vi none (if_pos z)]
      rfl
     ·have z:¬ V.non∈(cs.zip ws).map (fun p=>valIn p.1.2 p.2):=fun y=>z (decide_eq_true y)
      refine qz9 ?_
      refine (ea rfl ⟨D,ea rfl (.inl ⟨SqL.of hd,fun l hl => ?_⟩)⟩)
      refine q _ _ (sm.trans (Same.new hl)) ?_
      rw [vi _ (if_neg z)]
      exact ⟨l,rfl,zab⟩
end
def zcS (rows:List (List Key)):Prop:=rows.Pairwise fun x y=>zaP y x=false
instance (rows:List (List Key)):Decidable (zcS rows):=by unfold zcS;infer_instance
theorem zhF {k:Bool} {ks:List Bool} {x y:List Key} (hx:zaF (k :: ks) x=true) (hy:zaF (k :: ks) y=true) (ne:zaO y≠zaO x):zaP y x=ltKey (zaO y) (zaO x):=by
 obtain ⟨_,a,x',rfl⟩:=zcn hx
 obtain ⟨_,b,y',rfl⟩:=zcn hy
 exact if_neg ne
theorem zdU {k:Bool} {ks:List Bool} {rows:List (List Key)} (h:∀ r∈rows,zaF (k :: ks) r=true):zbU rows↔zcS rows∧(rows.map zaO).Nodup:=by
 unfold zbU zcS
 constructor
 ·intro r
  have nd:(rows.map zaO).Nodup:=r.imp fun {a b} z y=>by
   rw [y,zdC] at z
   cases z
  refine ⟨?_,nd⟩
  rw [ybv] at r
  refine r.imp_of_mem fun {x y} hx hy z => ?_
  have ne:zaO y≠zaO x:=fun e=>by
   rw [e,zdC] at z
   cases z
  rw [zhF (h x hx) (h y hy) ne]
  cases e:ltKey (zaO y) (zaO x)
  ·rfl
  ·have:=zey z e
   rw [zdC] at this
   cases this
 ·rintro ⟨o,nd⟩
  rw [ybv]
  have nd:rows.Pairwise fun x y=>zaO x≠zaO y:=ybv.mp nd
  refine (o.and nd).imp_of_mem fun {x y} hx hy ⟨z,ne⟩ => ?_
  rw [zhF (h x hx) (h y hy) (fun e=>ne e.symm)] at z
  cases e:ltKey (zaO x) (zaO y)
  ·exact absurd (zeK e z) ne
  ·rfl
theorem zjr {ra rb:List (Addr×List Key)} (p:rb.Perm ra) (h:rb.Pairwise fun x y=>zaP y.2 x.2=false):decide (ra.map (·.2)≠rb.map (·.2)) = !decide (zcS (ra.map (·.2))):=by
 have hb:zcS (rb.map (·.2)):=ybv.mpr h
 by_cases o:zcS (ra.map (·.2))
 ·have e:ra.map (·.2)=rb.map (·.2):=(List.Perm.eq_of_pairwise (le:=fun x y=>zaP y x=false) (fun a b _ _ x y=>zck y x) hb o (p.map _)).symm
  rw [decide_eq_true o,e]
  simp
 ·have ne:ra.map (·.2)≠rb.map (·.2):=fun e=>o (e ▸ hb)
  rw [decide_eq_true ne,decide_eq_false o]
  rfl
theorem last_of {x:Str} (h:x.cps.toList ≠ []):∃ c,atI x.cps.toList (-1)=some c∧(ycG x ";" = true↔c=59):=by
 obtain ⟨l,c,e⟩:∃ l c,x.cps.toList=l ++ [c]:=⟨_,_,(yeM h).symm⟩
 refine ⟨c,?_,?_⟩
 ·rw [e]
  have:ixN (l ++ [c]).length (-1)=some l.length:=by
   unfold ixN
   rw [if_neg (by decide),if_pos (by rw [yao];simp;omega)]
   congr 1
   rw [yao]
   simp
   try omega
  show (ixN (l ++ [c]).length (-1)).bind (fun j=>(l ++ [c])[j]?)=some c
  rw [this]
  show (l ++ [c])[l.length]? = some c
  rw [ybJ (yag _),Nat.sub_self]
  rfl
 ·rw [zeA,e]
  constructor
  ·rintro ⟨l',e'⟩
   have:=congrArg List.getLast? e'
   simpa using this
  ·intro z
   exact ⟨l,by rw [z]⟩
def zfk:Sp:=fun vs H Q _=>∃ (t:Addr) (x:Str) (ex ts:List Addr) (tabs:List Tab),vs = [.ref t,.str x]∧H t=some (.lst (ts.map V.ref))∧TabsL ex H ts tabs∧zcH tabs∧x.length≤9999 ∧
 ∀ (r:V) (H':Hp),Same H H'→PageAt H H' (zeI tabs x) r→Q r H'
theorem pp_many {tabs:List Tab} {u:Str} {ps:List Str} (h:¬ ps.length≤60):zcy tabs (u :: ps)=none:=by
 cases e:zch tabs (yaV u " ") with
 | none=>exact zbG e
 | some tnm =>
  obtain ⟨t,n,m⟩:=tnm
  rw [zcw e,zeq h]
  rfl
theorem pp_row {tabs:List Tab} {u:Str} {ps:List Str} {k:Nat} {hk:k < tabs.length} {w0 w2 w3:Str} (nd:(tabs.map (·.1)).Nodup) (e:yaV u " " = [w0,tabs[k].1,w2,w3]) (h:none∈ps.map (rowK tabs[k].2)):zcy tabs (u :: ps)=none:=by
 cases eh:zch tabs (yaV u " ") with
 | none=>exact zbG eh
 | some tnm =>
  obtain ⟨t,n,m⟩:=tnm
  rw [zcw eh]
  rw [e,zbk] at eh
  split at eh
  ·rw [zdt nd hk] at eh
   dsimp only at eh
   split at eh
   ·cases eh
    rw [zer h]
    rfl
   ·cases eh
  ·cases eh
section
variable {P:Program} {w:World} {K:PySem.W.Frag} {mg:Str→Option Value} {base:Heap}
theorem zff (T:Txt K mg):FnOk P w K mg base CX0 4 T._law_parsed.f T._law_parsed.fd ["_law_tables", "_law_text"] zfk:=by
 have G__law_number:FnOk P w K mg base CX0 1 T._law_number.f T._law_number.fd _ _:=zdn T
 have G__law_row_in:FnOk P w K mg base CX0 3 T._law_row_in.f T._law_row_in.fd _ _:=zfj T
 refine T._law_parsed.fn.ok sc__law_parsed (fun vs H Q E h => ?_) (fun cdv A outer s H vs Q E hr h => ?_)
 ·obtain ⟨t,x,ex,ts,tabs,rfl,_⟩:=h
  rfl
 ·obtain ⟨t,x,ex,ts,tabs,rfl,ht,hT,hok,hx,q⟩:=h
  have hu1:=hu_of hr
  have lt:ts.length=tabs.length:=yaz hT
  have nd:=hok.2.2.2
  refine ⟨_,((zae (ps_if (PW.pt (pw_or (zan op_eq (pv 1) zay (zaA _)) (zbn (zan op_ne (pe_ix ix_str (pv 1) (pe_un zdQ zaf) (fun _ _=>rfl)) zay (zaA _))))) (zah (zao zaZ)) zau)
   (zae (zat (i:=2) sc__law_parsed.nd rfl (yaR rfl) (zaY (K:=K) rfl yaQ yb1 yb2 zcM (zax zcg (pv 1) zaJ (zaB (pe_un zdQ zaf))) (zaa zay zad)))
   (zae (zat (i:=3) sc__law_parsed.nd rfl (Or.inr rfl) (zaY (K:=K) rfl yaQ yb1 yb2 zcM (pe_ix (zaj (K:=K) rfl) (pv 2) zaf (fun _ _=>rfl)) (zaa zay zad)))
   (zae (ps_if (PW.pt (pw_or (zan op_ne (zak (zap (K:=K) rfl) (by rfl) T.b_len za0 (zaa (pv 3) zad)) zaf (zaA _)) (pw_or (zan op_ne (pe_ix (zaj (K:=K) rfl) (pv 3) zaf (fun _ _=>rfl)) zay (zaA _)) (pw_or (zan (zcL (K:=K) rfl) (pe_ix (zaj (K:=K) rfl) (pv 3) zaf (fun _ _=>rfl)) (zaR (N := ["_law_name", "_law_columns"]) (own:=2) (caps := []) rfl (by kernel_rfl) (by kernel_rfl) (zaQ (K:=K) rfl (pv 0)) (fun _ _ _ _ _=>(zbL (K:=K) (n:=2) rfl rfl (zaC (zal (i:=0) (show List.Nodup (["_law_name", "_law_columns"]:List Str) by decide +kernel) rfl (yaR rfl)) (zaC (zal (i:=1) (show List.Nodup (["_law_name", "_law_columns"]:List Str) by decide +kernel) rfl (yaR rfl)) zbM)))) (fun _ _ _ _ _=>zaM) (fun _ _ _ _ _=>(pv 0))) (by with_unfolding_all rfl)) (zbn (zan op_gt (zak (zap (K:=K) rfl) (by rfl) T.b_len za0 (zaa (pv 2) zad)) zaf (zaA _))))))) (zah (zao zaZ)) zau)
   (zae (zat (i:=4) sc__law_parsed.nd rfl (Or.inr rfl) (pe_ix (zaj (K:=K) rfl) (zaR (N := ["_law_name", "_law_more", "_law_words"]) (own:=2) (caps := [3]) rfl (by kernel_rfl) (by kernel_rfl) (zaQ (K:=K) rfl (pv 0)) (fun _ _ _ _ _=>(zbL (K:=K) (n:=2) rfl rfl (zaC (zal (i:=0) (show List.Nodup (["_law_name", "_law_more", "_law_words"]:List Str) by decide +kernel) rfl (yaR rfl)) (zaC (zal (i:=1) (show List.Nodup (["_law_name", "_law_more", "_law_words"]:List Str) by decide +kernel) rfl (yaR rfl)) zbM)))) (fun _ _ _ _ _=>(zgh (zan op_eq (pv 0) (pe_ix (zaj (K:=K) rfl) (pv 2) zaf (fun _ _=>rfl)) (zaA _)))) (fun _ _ _ _ _=>(pv 1))) zaf (fun _ _=>rfl)))
   (zae (zdo (i:=5) sc__law_parsed.nd rfl (yaR rfl) (N := ["_law_part", "_law_columns"]) (own:=1) (caps := [4]) rfl (by kernel_rfl) (by kernel_rfl) (zaQ (K:=K) rfl (zax (za4 (K:=K) rfl) (pv 2) (zaB zaf) zaJ)) (fun _ _ _ _ _=>zal (i:=0) (show List.Nodup (["_law_part", "_law_columns"]:List Str) by decide +kernel) rfl (yaR rfl)) (fun _ _ _ _ _=>zaM) (fun _ _ _ _ _=>(zam G__law_row_in (hr.mono (by decide)) rfl (zaa (pv 1) (zaa (pv 0) zad)))))
   (zae (ps_if (PW.pt (pw_or (zan (OpR.or (zcF (K:=K) rfl) (zhR (K:=K) rfl hu1)) zaZ (pv 5) (by with_unfolding_all rfl)) (zbn (zan (OpR.or (zcF (K:=K) rfl) (zhR (K:=K) rfl hu1)) zaZ (zaS (zaa (zam G__law_number (hr.mono (by decide)) rfl (zaa (pe_ix (zaj (K:=K) rfl) (pv 3) zaf (fun _ _=>rfl)) zad)) (zaa (zam G__law_number (hr.mono (by decide)) rfl (zaa (pe_ix (zaj (K:=K) rfl) (pv 3) zaf (fun _ _=>rfl)) zad)) zad))) (by with_unfolding_all rfl))))) (zah (zao zaZ)) zau)
   (zae (ps_if (PW.pt (pw_or (zan (op_neRows (K:=K) rfl hu1) (pv 5) (zak (zhG (K:=K) rfl) (by rfl) T.b_sorted zen (zaa (pv 5) zad)) (zaA _)) (zbn (zan op_lt (zak (CallR.or call_lenX call_lenN) (by rfl) T.b_len za0 (zaa (zav (CallR.or (zgD rfl) (zgZ rfl)) (by rfl) T.b_set ziH (zaa (zaR (N := ["_law_row_here"]) (own:=1) (caps := []) rfl (by kernel_rfl) (by kernel_rfl) (zaQ (K:=K) rfl (pv 5)) (fun _ _ _ _ _=>zal (i:=0) (show List.Nodup (["_law_row_here"]:List Str) by decide +kernel) rfl (yaR rfl)) (fun _ _ _ _ _=>zaM) (fun _ _ _ _ _=>(pe_ix (zaK (K:=K) rfl) (pv 0) zaf (fun _ _=>rfl)))) zad)) zad)) (zak (zap (K:=K) rfl) (by rfl) T.b_len za0 (zaa (pv 5) zad)) (zaA _))))) (zah (zao zaZ)) zau)
   (zah (zao (zce (zaa (pe_ix (zaj (K:=K) rfl) (pv 3) zaf (fun _ _=>rfl)) (zaa (zam G__law_number (hr.mono (by decide)) rfl (zaa (pe_ix (zaj (K:=K) rfl) (pv 3) zaf (fun _ _=>rfl)) zad)) (zaa (zam G__law_number (hr.mono (by decide)) rfl (zaa (pe_ix (zaj (K:=K) rfl) (pv 3) zaf (fun _ _=>rfl)) zad)) (zaa (pv 5) zad)))))))))))))))),?_⟩
  have qn:zeI tabs x=none→∀ H',Same H H'→Q .non H':=fun e H' s'=>q _ H' s' (by rw [e];rfl)
  have hlen:=zcf x
  refine sq1 fun Rz1 qz1 => ?_
  refine (ea rfl ⟨rfl,ea rfl ?_⟩)
  refine ite2 (fun a1 => ?_) (fun a1 => ?_)
  ·have a1:=ne_empty.mp (of_decide_eq_true a1)
   refine qn (zin fun z => ?_) H (Same.refl H)
   obtain ⟨l,e⟩:=(zeA x).mp z
   rw [e,a1] at hlen
   simp at hlen
  have a1:=fun z=>a1 (decide_eq_true (ne_empty.mpr z))
  have hne:x.cps.toList ≠ []:=fun e=>a1 (by rw [e] at hlen;exact hlen.symm)
  obtain ⟨c,hc,ec⟩:=last_of hne
  refine (ea rfl (ea rfl ⟨x,_,c,rfl,rfl,zac (show x.length≤100000 by omega),hc,rfl,ea rfl ?_⟩))
  refine ite2 (fun a2 => ?_) (fun a2 => ?_)
  ·refine qn (zin fun z => ?_) H (Same.refl H)
   rw [ec.mp z] at a2
   exact absurd a2 (by decide +kernel)
  have he:ycG x ";" = true:=ec.mpr (by
   by_cases y:c=59
   ·exact y
   ·refine absurd ?_ a2
    simp only [ycs,decide_eq_false_iff_not]
    intro z
    have z:=congrArg (fun s:Str=>s.cps.toList) (V.str.inj z)
    have z : [c]=(";" : Str).cps.toList:=z
    rw [semi] at z
    exact y (by simpa using z))
  rw [zgg he] at q qn
  have ls':(ya3 x none (some (-1))).length≤x.length:=ycF x none (some (-1))
  refine qz1 (sq1 fun Rz2 qz2 => ?_)
  refine (ea rfl (ea rfl (ea rfl ⟨x,rfl,zac (show x.length≤100000 by omega),rfl,_,ea rfl ⟨rfl,(by decide +kernel),zac (show _+2≤100000 by omega),fun b hb => ?_⟩⟩)))
  have hs:∀ w'∈yaV (ya3 x none (some (-1))) " | ",w'.length≤10000:=fun w' hw'=>ya1 (part_short hw') (by omega)
  have hm:=zfz (ya3 x none (some (-1))) (z := " | ") (by rw [zcA];decide)
  have hne2:=zee (ya3 x none (some (-1))) " | "
  generalize yaV (ya3 x none (some (-1))) " | " = ps at q qn hs hm hne2 ⊢
  generalize e1:upd H b _=H1
  have s1:Same H H1:=e1 ▸ Same.new hb
  have b1:H1 b=some (.lst (ps.map V.str)):=by rw [← e1];exact zab
  clear e1
  obtain ⟨u,ps,rfl⟩:∃ u ps',ps=u :: ps':=by
   cases ps with
   | nil=>exact absurd rfl hne2
   | cons u ps=>exact ⟨u,ps,rfl⟩
  have lu:=hs u yat
  refine qz2 (sq1 fun Rz3 qz3 => ?_)
  refine (ea rfl (ixLc (SqL.of b1) at0 ⟨rfl,_,ea rfl ⟨rfl,(by decide +kernel),zac (show _+2≤100000 by omega),fun d hd => ?_⟩⟩))
  have hw:∀ w'∈yaV u " ",w'.length≤10000:=fun w' hw'=>ya1 (part_short hw') lu
  generalize ew:yaV u " " = ws at hw ⊢
  generalize e2:upd H1 d _=H2
  have s2:Same H1 H2:=e2 ▸ Same.new hd
  have d2:H2 d=some (.lst (ws.map V.str)):=by rw [← e2];exact zab
  clear e2
  have S2:=s1.trans s2
  have b2:=s2 _ _ b1
  refine qz3 (sq1 fun Rz4 qz4 => ?_)
  refine (ea rfl ⟨d,ea rfl ⟨.inl (SqL.of d2),rfl,ea rfl ?_⟩⟩)
  rw [yaa]
  refine ite2 (fun z => ?_) (fun z => ?_)
  ·have z:ws.length≠4:=fun y=>by rw [y] at z;exact absurd z (by decide)
   exact qn (zbG (by rw [ew];exact zf6 z)) H2 S2
  have z:ws.length=4:=by
   by_cases y:ws.length=4
   ·exact y
   ·exact absurd (by simp;omega) z
  obtain ⟨w0,w1,w2,w3,rfl⟩:∃ w0 w1 w2 w3,ws = [w0,w1,w2,w3]:=by
   match ws,z with
   | [a,b,c,d],_=>exact ⟨a,b,c,d,rfl⟩
  refine (ea rfl (ixLc (SqL.of d2) at0 ⟨rfl,ea rfl ?_⟩))
  refine ite2 (fun z => ?_) (fun z => ?_)
  ·have z:¬ w0=("page" : Str):=fun y=>by
    rw [y] at z
    exact absurd z (by decide +kernel)
   exact qn (zbG (by rw [ew,zbk,if_neg z])) H2 S2
  have z:w0=("page" : Str):=by
   by_cases y:w0=("page" : Str)
   ·exact y
   ·exact absurd (by simpa using y) z
  subst z
  refine (ea rfl (ixLc (SqL.of d2) at1 (ea rfl ⟨t,rfl,⟨_,SqL.of (S2 _ _ ht)⟩,fun D hD => ?_⟩)))
  refine zaz (J:=Itl K t) ts.length (fun j τ H4=>∃ (v0 v1:Option V),τ = [v0,v1]∧Same H2 H4∧H4 D=some (.lst (((tabs.take j).map (·.1)).map V.str)))
   ⟨none,none,rfl,Same.new hD,zab⟩
   (fun j τ H4 hj ⟨_,_,_,sm4,_⟩=>⟨_,.ref ts[j],SqL.of (sm4 _ _ (S2 _ _ ht)),by rw [yae,yab hj];rfl⟩)
   (by rintro τ H4 ⟨_,_,_,sm4,_⟩;exact ⟨_,SqL.of (sm4 _ _ (S2 _ _ ht)),by rw [yaa];exact yag _⟩) ?_ ?_
  ·rintro j τ H4 y H5 hj ⟨v0,v1,rfl,sm4,hd4⟩ ⟨rfl,hy5⟩
   have e5:=hy5 _ (SqL.of (sm4 _ _ (S2 _ _ ht)))
   rw [yae,yab hj] at e5
   cases (yas e5)
   have hj2:j < tabs.length:=by omega
   obtain ⟨ca,qs,t1,t2,t3,_⟩:=Paired.at hT j hj hj2
   refine ⟨ts[j],ea rfl ⟨SqT.of (sm4 _ _ (S2 _ _ t1)),rfl,_,ea rfl ⟨_,ea rfl ⟨rfl,?_⟩⟩⟩⟩
   refine (ea rfl ⟨_,hd4,by rw [yaa,yaa,yaj];have:=hok.2.1;exact zai (by omega),_,ea rfl ⟨sm4.upd hD,?_⟩⟩)
   rw [zab,ybc,yab hj2,yah,yah]
   rfl
  rintro τ H3 ⟨v0,v1,rfl,sm3,hd3⟩
  rw [yaA (by omega)] at hd3
  have S3:=S2.trans sm3
  have d3:=sm3 _ _ d2
  have b3:=sm3 _ _ b2
  refine ⟨D,ea rfl ⟨.inl (SqL.of hd3),rfl,zdM _,ea rfl ?_⟩⟩
  rw [if_pos rfl,zfQ]
  refine ite2 (fun y => ?_) (fun y => ?_)
  ·have y:w1∉tabs.map (·.1):=by simpa using y
   exact qn (zbG (by rw [ew,zbk,if_pos rfl,find_no y])) H3 S3
  have y:w1∈tabs.map (·.1):=by simpa using y
  obtain ⟨k,hk,rfl⟩:∃ (k:Nat) (hk:k < tabs.length),tabs[k].1=w1:=by
   obtain ⟨e,he,rfl⟩:=yaG.mp y
   obtain ⟨k,hk,rfl⟩:=ybU he
   exact ⟨k,hk,rfl⟩
  clear y
  refine (ea rfl ⟨b,ea rfl ⟨.inl (SqL.of b3),_,ea rfl ⟨rfl,ea rfl ?_⟩⟩⟩)
  rw [yaa,yal]
  refine ite2 (fun y => ?_) (fun y => ?_)
  ·have y:=of_decide_eq_true y
   exact qn (pp_many (by omega)) H3 S3
  have lp:ps.length≤60:=by
   rcases ybC 60 ps.length with z | z
   ·exact absurd (decide_eq_true (by omega)) y
   ·exact z
  clear y
  have hk2:k < ts.length:=by omega
  obtain ⟨ca,qs,t1,t2,t3,_⟩:=Paired.at hT k hk2 hk
  have okt:=hok.2.2.1 _ (yam hk)
  refine qz4 (sq1 fun Rz5 qz5 => ?_)
  refine (ea rfl ⟨t,rfl,⟨_,SqL.of (S3 _ _ ht)⟩,fun D2 hD2 => ?_⟩)
  refine zaz (J:=Itl K t) ts.length (fun j τ H4=>∃ (v0 v1:Option V),τ = [v0,v1,some (.ref d)]∧Same H3 H4∧H4 D2=some (.lst (if k < j then [.ref ca] else [])))
   ⟨none,none,rfl,Same.new hD2,by rw [zab,if_neg (ycj _)]⟩
   (fun j τ H4 hj ⟨_,_,_,sm4,_⟩=>⟨_,.ref ts[j],SqL.of (sm4 _ _ (S3 _ _ ht)),by rw [yae,yab hj];rfl⟩)
   (by rintro τ H4 ⟨_,_,_,sm4,_⟩;exact ⟨_,SqL.of (sm4 _ _ (S3 _ _ ht)),by rw [yaa];exact yag _⟩) ?_ ?_
  ·rintro j τ H4 y H5 hj ⟨v0,v1,rfl,sm4,hd4⟩ ⟨rfl,hy5⟩
   have e5:=hy5 _ (SqL.of (sm4 _ _ (S3 _ _ ht)))
   rw [yae,yab hj] at e5
   cases (yas e5)
   have hj2:j < tabs.length:=by omega
   obtain ⟨ca',qs',u1,u2,u3,_⟩:=Paired.at hT j hj hj2
   refine ⟨ts[j],ea rfl ⟨SqT.of (sm4 _ _ (S3 _ _ u1)),rfl,_,ea rfl ⟨_,ea rfl ⟨rfl,?_⟩⟩⟩⟩
   refine (ea rfl (ea rfl (ixLc (SqL.of (sm4 _ _ d3)) at1 ⟨rfl,ea rfl (ite2 (fun z => ?_) (fun z => ?_))⟩)))
   ·have z:=V.str.inj (of_decide_eq_true z)
    have ej:j=k:=by
     have:=(ydd (h₀:=by rw [yaa];exact hj2) (h₁:=by rw [yaa];exact hk) nd).mp (by rw [ydf,ydf];exact z)
     exact this
    subst ej
    rw [u1] at t1
    cases t1
    refine (ea rfl ⟨_,hd4,by rw [if_neg (ycQ _)];exact zai (show 0 < 100000 by decide),_,ea rfl ⟨sm4.upd hD2,?_⟩⟩)
    rw [zab,if_neg (ycQ _),if_pos (ybh _)]
    rfl
   ·have nj:j≠k:=fun e=>by
     subst e
     exact z (decide_eq_true rfl)
    refine ⟨_,ea rfl ⟨sm4,?_⟩⟩
    rw [hd4]
    by_cases l:k < j
    ·rw [if_pos l,if_pos (by omega)]
    ·rw [if_neg l,if_neg (by omega)]
  rintro τ H4 ⟨v0',v1',rfl,sm4,hd4⟩
  rw [if_pos hk2] at hd4
  have S4:=S3.trans sm4
  have d4:=sm4 _ _ d3
  have b4:=sm4 _ _ b3
  refine (ixL (SqL.of hd4) zfU ?_)
  refine qz5 (sq1 fun Rz6 qz6 => ?_)
  refine (ea rfl (ea rfl ⟨b,ea rfl ⟨SqL.of b4,fun e he => ?_⟩⟩))
  rw [show (1:Int)=((1:Nat):Int) from rfl,ziX (by rw [yaa,yal];omega)]
  generalize e5:upd H4 e _=H5
  have s5:Same H4 H5:=e5 ▸ Same.new he
  have f5:H5 e=some (.lst (ps.map V.str)):=by rw [← e5];exact zab
  clear e5
  have S5:=S4.trans s5
  have d5:=s5 _ _ d4
  have ca5:=S5 _ _ t2
  have cs5:=t3.same S5
  have okc:=okt.2.2.2.1
  refine ⟨e,rfl,⟨_,SqL.of f5⟩,fun D3 hD3 => ?_⟩
  refine zaz (J:=Itl K e) ps.length (fun j τ H6=>∃ (v0:Option V) (vs:List V),τ = [v0,some (.ref ca)]∧Same H5 H6∧H6 D3=some (.lst vs)∧Paired (RowV H6) ((ps.take j).map (rowK tabs[k].2)) vs)
   ⟨none,[],rfl,Same.new hD3,zab,.nil⟩
   (fun j τ H6 hj ⟨_,_,_,sm,_⟩=>⟨_,.str ps[j],SqL.of (sm _ _ f5),by rw [yae,yab hj];rfl⟩)
   (by rintro τ H6 ⟨_,_,_,sm,_⟩;exact ⟨_,SqL.of (sm _ _ f5),by rw [yaa];exact yag _⟩) ?_ ?_
  ·rintro j τ H6 y H7 hj ⟨v0,vs,rfl,sm,hd,pr⟩ ⟨rfl,hy5⟩
   have e5:=hy5 _ (SqL.of (sm _ _ f5))
   rw [yae,yab hj] at e5
   cases (yas e5)
   have hl:=hs _ (yap _ (yam hj))
   refine (ea rfl (ea rfl ⟨ca,ps[j],qs,tabs[k].2,rfl,sm _ _ ca5,cs5.same sm,okc,okt.2.2.1,hl,fun r H8 s8 h8 => ?_⟩))
   have hu:=s8 _ _ hd
   refine ⟨vs,hu,?_,some (.str ps[j]),vs ++ [r],rfl,(sm.trans s8).upd hD3,zab,?_⟩
   ·have:=yaz pr
    rw [yaa,yaj] at this
    exact zai (by omega)
   ·rw [ybc,yab hj,yah]
    have keep:∀ o v,RowV H8 o v→RowV (upd H8 D3 (.lst (vs ++ [r]))) o v:=fun o v h=>by
     cases o with
     | none=>exact h
     | some ks =>
      obtain ⟨x,e,hx⟩:=h
      exact ⟨x,e,(zar (fun z=>by rw [z] at hx;exact absurd (hu.symm.trans hx) (fun y=>nomatch y))).trans hx⟩
    exact Paired.snoc (Paired.mapP pr fun o v h=>keep o v (h.same s8)) (keep _ _ (rowV_of okc h8))
  rintro τ H6 ⟨v0'',vs,rfl,sm6,hd6,pr⟩
  rw [yaA (yag _)] at pr
  have S6:=S5.trans sm6
  have d6:=sm6 _ _ d5
  have lv:vs.length=ps.length:=by rw [← yaz pr,yaa]
  refine qz6 (sq1 fun Rz7 qz7 => ?_)
  refine (ea rfl (.inr ⟨D3,vs,rfl,rfl,SqL.of hd6,fun v hv => ?_,ea rfl ?_⟩))
  ·obtain ⟨j,hj,rfl⟩:=ybU hv
   have:=Paired.at pr j (by rw [yaa];omega) hj
   cases eo:((ps.map (rowK tabs[k].2))[j]'(by rw [yaa];omega)) with
   | none=>rw [eo] at this;exact .inl this
   | some ks =>
    rw [eo] at this
    obtain ⟨x,e,hx⟩:=this
    exact .inr ⟨x,_,e,SqT.of hx⟩
  have an:=zga pr
  rw [an]
  refine ite2 (fun y => ?_) (fun y => ?_)
  ·obtain ⟨o,ho,eo⟩:=yde.mp y
   have ho:none∈ps.map (rowK tabs[k].2):=by
    cases o with
    | none=>exact ho
    | some _=>cases eo
   exact qn (pp_row nd ew ho) H6 S6
  have nn:none∉ps.map (rowK tabs[k].2):=fun h=>y (yde.mpr ⟨none,h,rfl⟩)
  obtain ⟨rows,er⟩:=zf7 nn
  rw [er] at pr
  obtain ⟨as,rfl,hrows⟩:=zeF pr
  have la:as.length=rows.length:=yaz hrows
  have lr:rows.length=ps.length:=by rw [← yaa (f:=rowK tabs[k].2),er,yaa]
  have kn:=zfN okc er
  obtain ⟨k',ks',ek⟩:=zcY okt.2.1
  rw [ek] at kn
  refine (ea rfl (ixLc (SqL.of d6) at2 ⟨w2,rfl,hw w2 (by simp),fun H7 s7 => ?_⟩))
  have S7:=S6.trans s7
  have d7:=s7 _ _ d6
  refine (ea rfl (ixLc (SqL.of d7) at3 ⟨w3,rfl,hw w3 (by simp),fun H8 s8 => ?_⟩))
  have S8:=S7.trans s8
  have hd8:H8 D3=some (.lst (as.map V.ref)):=s8 _ _ (s7 _ _ hd6)
  refine ⟨zac (show 2≤100000 by decide),fun g hg => .inl ⟨g,ea rfl ⟨.inl (SqL.of zab),rfl,(by simp [zhf]),ea rfl ?_⟩⟩⟩
  have s9:Same H8 (upd H8 g (.lst [optV (nat0 w2),optV (nat0 w3)])):=Same.new hg
  generalize upd H8 g (.lst [optV (nat0 w2),optV (nat0 w3)])=H9 at s9 ⊢
  have S9:=S8.trans s9
  have s69:=(s7.trans s8).trans s9
  have hd9:=s69 _ _ hd6
  have hrows9:=hrows.same s69
  have d9:=s69 _ _ d6
  rw [if_neg (show ¬ false=true by decide),zfV]
  refine ite2 (fun y => ?_) (fun y => ?_)
  ·have y:V.non ∈ [optV (nat0 w2),optV (nat0 w3)]:=of_decide_eq_true y
   refine qn (zbG ?_) H9 S9
   rw [ew,zbk,if_pos rfl,zdt nd hk]
   dsimp only
   cases en:nat0 w2 with
   | none=>rfl
   | some n =>
    cases em:nat0 w3 with
    | none=>rfl
    | some m=>rw [en,em] at y;simp [optV] at y
  have y:V.non ∉ [optV (nat0 w2),optV (nat0 w3)]:=fun z=>y (decide_eq_true z)
  obtain ⟨n,en⟩:∃ n,nat0 w2=some n:=by
   cases en:nat0 w2 with
   | none=>rw [en] at y;exact absurd (by simp [optV]) y
   | some n=>exact ⟨n,rfl⟩
  obtain ⟨m,em⟩:∃ m,nat0 w3=some m:=by
   cases em:nat0 w3 with
   | none=>rw [em] at y;exact absurd (by simp [optV]) y
   | some n=>exact ⟨n,rfl⟩
  have eh:zch tabs (yaV u " ")=some (tabs[k],n,m):=by
   rw [ew,zbk,if_pos rfl,zdt nd hk,en,em]
  rw [zcw eh,zdq lp er] at q qn
  have zr:(as.zip rows).map (fun r=>V.ref r.1)=as.map V.ref:=by
   have e:(as.zip rows).map (fun r=>V.ref r.1)=((as.zip rows).map Prod.fst).map V.ref:=by
    rw [ybb]
    rfl
   rw [e,List.map_fst_zip (by omega)]
  have z2:(as.zip rows).map (·.2)=rows:=List.map_snd_zip (by omega)
  have at_:∀ {H':Hp},RowsAt H' as rows→∀ r∈as.zip rows,H' r.1=some (.tup (r.2.map kV)):=fun {H'} h r hr=>by
   obtain ⟨j,hj,rfl⟩:=ybU hr
   rw [ycl] at hj
   rw [ydO]
   exact Paired.at h j (by omega) (by omega)
  have lz:(as.zip rows).length=rows.length:=by rw [ycl];omega
  refine qz7 (sq1 fun Rz8 qz8 => ?_)
  refine (ea rfl (ea rfl ⟨D3,as.zip rows,k',ks',rfl,SqL.of (by rw [zr];exact hd9),fun r hr=>⟨SqT.of (at_ hrows9 r hr),kn _ (yeU hr).2⟩,by omega,fun l rows' hl pm pw => ?_⟩))
  have s10:Same H9 (upd H9 l (.lst (rows'.map fun r=>V.ref r.1))):=Same.new hl
  have lz':=pm.length_eq
  refine ⟨D3,l,as.zip rows,rows',rfl,rfl,SqL.of (by rw [zr];exact s10 _ _ hd9),SqL.of zab,fun r hr=>SqT.of (s10 _ _ (at_ hrows9 r hr)),fun r hr=>SqT.of (s10 _ _ (at_ hrows9 r (pm.mem_iff.mp hr))),by omega,ea rfl ?_⟩
  rw [zjr pm pw,z2]
  generalize upd H9 l (.lst (rows'.map fun r=>V.ref r.1))=H10 at s10 ⊢
  have S10:=S9.trans s10
  have hd10:=s10 _ _ hd9
  have hrows10:=hrows9.same s10
  have d10:=s10 _ _ d9
  refine ite2 (fun y => ?_) (fun y => ?_)
  ·have y:¬ zcS rows:=by simpa using y
   refine qn ?_ H10 S10
   rw [if_neg (fun z=>y ((zdU kn).mp z).1)]
   rfl
  have ino:zcS rows:=by simpa using y
  refine (ea rfl ⟨D3,rfl,⟨_,SqL.of hd10⟩,fun D4 hD4 => ?_⟩)
  refine zaz (J:=Itl K D3) as.length (fun j τ H4=>∃ (v0:Option V),τ = [v0]∧Same H10 H4∧H4 D4=some (.lst (((rows.take j).map zaO).map kV)))
   ⟨none,rfl,Same.new hD4,zab⟩
   (fun j τ H4 hj ⟨_,_,sm4,_⟩=>⟨_,.ref as[j],SqL.of (sm4 _ _ hd10),by rw [yae,yab hj];rfl⟩)
   (by rintro τ H4 ⟨_,_,sm4,_⟩;exact ⟨_,SqL.of (sm4 _ _ hd10),by rw [yaa];exact yag _⟩) ?_ ?_
  ·rintro j τ H4 y H5 hj ⟨v0,rfl,sm4,hd4⟩ ⟨rfl,hy5⟩
   have e5:=hy5 _ (SqL.of (sm4 _ _ hd10))
   rw [yae,yab hj] at e5
   cases (yas e5)
   have hj2:j < rows.length:=by omega
   have rj:=sm4 _ _ (Paired.at hrows10 j hj hj2)
   obtain ⟨f1,x,r',ex⟩:=zcn (kn _ (yam hj2))
   refine (ea rfl (ixTc (SqT.of rj) (by rw [ex];exact zfU) ?_))
   refine ⟨_,hd4,by rw [yaa,yaa,yaj];exact zai (by omega),ea rfl ⟨sm4.upd hD4,?_⟩⟩
   rw [zab,ybc,yab hj2,yah,yah,ex]
   rfl
  rintro τ H11 ⟨v0x,rfl,sm11,hd11⟩
  rw [yaA (by omega)] at hd11
  have S11:=S10.trans sm11
  have hd12:=sm11 _ _ hd10
  have fk:∀ x∈rows.map zaO,zaF [k'] [x]=true:=fun x hx=>by
   obtain ⟨r,hr',rfl⟩:=yaG.mp hx
   exact (zcn (kn r hr')).1
  have fin:∀ H',Same H11 H'→∀ b:Bool,(b=true↔¬ (rows.map zaO).Nodup)→(if b=true then Q .non H' else ∀ (H13 H14:Hp) (a:Addr),Same H' H13→H13 a=none→H14=upd H13 a (.tup [.str tabs[k].1,.int n,.int m,.ref D3])→Q (.ref a) H14):=fun H' s' b eb=>by
   refine ite2 (fun y => ?_) (fun y => ?_)
   ·refine qn ?_ H' (S11.trans s')
    rw [if_neg (fun z=>eb.mp y ((zdU kn).mp z).2)]
    rfl
   ·intro H13 H14 a s13 ha e14
    subst e14
    have S13:=(S11.trans s').trans s13
    have s14:Same H13 (upd H13 a (.tup [.str tabs[k].1,.int n,.int m,.ref D3])):=Same.new ha
    refine q _ _ (S13.trans s14) ?_
    rw [if_pos ((zdU kn).mpr ⟨ino,yej.mp (fun z=>y (eb.mpr z))⟩)]
    have st:=((sm11.trans s').trans s13).trans s14
    exact ⟨a,D3,as,rfl,S13.free ha,S5.free hD3,zab,st _ _ hd10,hrows10.same st⟩
  cases k' with
  | true =>
   obtain ⟨ns,ens⟩:=zej fk
   have ln:ns.length=rows.length:=by rw [← yaa (f:=zaO),ens,yaa]
   have hd13:H11 D4=some (.lst (ns.map V.int)):=by rw [hd11,ens,ybb];rfl
   refine .inr ⟨D4,ns,rfl,SqL.of hd13,by omega,fun l1' hl1 => .inr ⟨l1',onceN [] ns,rfl,zab,?_⟩⟩
   have s12:Same H11 (upd H11 l1' (nmO P w l1' (onceN [] ns))):=Same.new hl1
   refine (ea rfl ⟨D3,ea rfl ⟨.inl (SqL.of (s12 _ _ hd12)),_,ea rfl ⟨rfl,ea rfl ?_⟩⟩⟩)
   have fn:=fin _ s12 (decide (((onceN [] ns).length:Int) < ((as.map V.ref).length:Int))) (by
    rw [decide_eq_true_eq,yaa,la,← ln,ziM,Int.ofNat_lt,ziK,ens]
    exact not_congr ⟨fun h=>yfS _ (fun a b z y=>z (Sum.inl.inj y)) h,fun h=>(ybv.mp h).imp fun {a b} z y=>z (by rw [y])⟩)
   refine ite2 (fun y => ?_) (fun y => ?_)
   ·rw [if_pos y] at fn
    exact fn
   ·rw [if_neg y] at fn
    have dd:=s12 _ _ (sm11 _ _ d10)
    refine qz8 ?_
    refine (ea rfl (ixLc (SqL.of dd) at1 (ea rfl (ixLc (SqL.of dd) at2 ⟨w2,rfl,hw w2 (by simp),fun H13 s13 => ?_⟩))))
    refine (ea rfl (ixLc (SqL.of (s13 _ _ dd)) at3 ⟨w3,rfl,hw w3 (by simp),fun H14 s14 => ?_⟩))
    refine (ea rfl ⟨zac (show 4≤100000 by decide),fun a ha => ?_⟩)
    rw [en,em]
    exact fn H14 _ a (s13.trans s14) ha rfl
  | false =>
   obtain ⟨ns,ens⟩:=zed fk
   have ln:ns.length=rows.length:=by rw [← yaa (f:=zaO),ens,yaa]
   have hd13:H11 D4=some (.lst (ns.map V.str)):=by rw [hd11,ens,ybb];rfl
   refine .inl ⟨D4,ns,rfl,SqL.of hd13,by omega,fun l1' hl1 => .inl ⟨l1',zcd [] ns,rfl,zab,?_⟩⟩
   have s12:Same H11 (upd H11 l1' (txO P w l1' (zcd [] ns))):=Same.new hl1
   refine (ea rfl ⟨D3,ea rfl ⟨.inl (SqL.of (s12 _ _ hd12)),_,ea rfl ⟨rfl,ea rfl ?_⟩⟩⟩)
   have fn:=fin _ s12 (decide (((zcd [] ns).length:Int) < ((as.map V.ref).length:Int))) (by
    rw [decide_eq_true_eq,yaa,la,← ln,zi3,Int.ofNat_lt,ziK,ens]
    exact not_congr ⟨fun h=>yfS _ (fun a b z y=>z (Sum.inr.inj y)) h,fun h=>(ybv.mp h).imp fun {a b} z y=>z (by rw [y])⟩)
   refine ite2 (fun y => ?_) (fun y => ?_)
   ·rw [if_pos y] at fn
    exact fn
   ·rw [if_neg y] at fn
    have dd:=s12 _ _ (sm11 _ _ d10)
    refine qz8 ?_
    refine (ea rfl (ixLc (SqL.of dd) at1 (ea rfl (ixLc (SqL.of dd) at2 ⟨w2,rfl,hw w2 (by simp),fun H13 s13 => ?_⟩))))
    refine (ea rfl (ixLc (SqL.of (s13 _ _ dd)) at3 ⟨w3,rfl,hw w3 (by simp),fun H14 s14 => ?_⟩))
    refine (ea rfl ⟨zac (show 4≤100000 by decide),fun a ha => ?_⟩)
    rw [en,em]
    exact fn H14 _ a (s13.trans s14) ha rfl
end
def flK (k:Key):Dp := .fl (kV k)
def rowD (ks:List Key):Dp := .tp (ks.map flK)
def pageD:Page→List Dp
 | (t,n,m,rows) => [.fl (.str t),.fl (.int n),.fl (.int m),.ls (rows.map rowD)]
theorem eqV_self (k:Key):eqV (kV k) (kV k)=true:=(ziE k k).mpr rfl
section
variable {K:PySem.W.Frag} {H:Hp}
theorem zi0 (n:Nat) (k:Key):Tl K H (n+1) (flK k) (kV k):=⟨rfl,by cases k <;> rfl,eqV_self k⟩
theorem tl_keys (n:Nat):∀ ks:List Key,Paired (Tl K H (n+1)) (ks.map flK) (ks.map kV)
 | [] => .nil
 | k :: ks => .cons (zi0 n k) (tl_keys n ks)
theorem tl_row {n:Nat} {a:Addr} {ks:List Key} (h:RowAt H a ks):Tl K H (n+2) (rowD ks) (.ref a):=⟨a,_,rfl,SqT.of h,tl_keys n ks⟩
theorem zgb {n:Nat}:∀ {as:List Addr} {rows:List (List Key)},RowsAt H as rows→Paired (Tl K H (n+2)) (rows.map rowD) (as.map V.ref)
 | _,_,.nil => .nil
 | _,_,.cons e t => .cons (tl_row e) (zgb t)
theorem zd3 {a l:Addr} {as:List Addr} {t:Str} {n m:Int} {rows:List (List Key)} (h1:H a=some (.tup [.str t,.int n,.int m,.ref l])) (h2:H l=some (.lst (as.map V.ref))) (h3:RowsAt H as rows):Tl K H (3+1) (.tp (pageD (t,n,m,rows))) (.ref a) :=
 ⟨a,_,rfl,SqT.of h1,.cons (zi0 2 (.inr t)) (.cons (zi0 2 (.inl n)) (.cons (zi0 2 (.inl m)) (.cons ⟨l,_,rfl,SqL.of h2,zgb h3⟩ .nil)))⟩
end
theorem hu4_of {k:Nat} {A:Around} (r:Room k A):A.units+3+1 < cLine:=by have:=r.un;omega
def zgH (C:Addr):Sp:=fun vs H Q _=>∃ (p t:Addr) (x:Str) (ex ts:List Addr) (tabs:List Tab) (ords:List Col),vs = [.ref p,.ref t,.str x]∧SchemaAt C H p tabs ords∧zcH tabs∧H t=some (.lst (ts.map V.ref))∧TabsL ex H ts tabs∧x.length≤9999∧∀ H',Same H H'→Q (.bl true) H'
section
variable {P:Program} {w:World} {K:PySem.W.Frag} {mg:Str→Option Value} {base:Heap}
theorem zhs (T:Txt K mg):FnOk P w K mg base CX0 9 T._law_good.f T._law_good.fd ["_law_schema_here", "_law_tables", "_law_text"] (zgH T.C_Schema):=by
 have G_page_in:FnOk P w K mg base CX0 8 T.page_in.f T.page_in.fd _ _:=zfD T
 have G__law_parsed:FnOk P w K mg base CX0 4 T._law_parsed.f T._law_parsed.fd _ _:=zff T
 refine T._law_good.fn.ok sc__law_good (fun vs H Q E h => ?_) (fun cdv A outer s H vs Q E hr h => ?_)
 ·obtain ⟨p,t,x,ex,ts,tabs,ords,rfl,_⟩:=h
  rfl
 ·obtain ⟨p,t,x,ex,ts,tabs,ords,rfl,hS,hok,ht,hT,hx,q⟩:=h
  have hu0:=hr.units0
  have hu4:=hu4_of hr
  refine ⟨_,((zae (zat (i:=3) sc__law_good.nd rfl (yaR rfl) (zam G_page_in (hr.mono (by decide)) rfl (zaa (pv 0) (zaa (pv 2) zad))))
   (zae (zat (i:=4) sc__law_good.nd rfl (yaR rfl) (zam G__law_parsed (hr.mono (by decide)) rfl (zaa (pv 1) (zaa (pv 2) zad))))
   (zae (ps_if (PW.pt (pw_or (zc0 (zdl (pv 4))) (zbn (zc0 (zdl (pv 3)))))) (zah (zao (zgJ (pe_cmp (zdl (pv 4))) (zgM (pe_cmp (zdl (pv 3))))))) zau)
   (zae (ps_if (PW.pt (pw_or (zbF (zbz (zak (za3 (K:=K) rfl) (by rfl) T.b_isinstance zaE (zaa (pv 3) (zaa (zbH (v := .ty "tuple") rfl T.b_tuple zbT rfl) zad))))) (pw_or (zan (zih (K:=K) (n:=3) rfl hu4) (pv 3) (pv 4) (zaA _)) (zbn (zbF (zbz (zak (za3 (K:=K) rfl) (by rfl) T.b_isinstance zaE (zaa (pe_ix (zaK (K:=K) rfl) (pv 3) zaf (fun _ _=>rfl)) (zaa (zbH (v := .ty "list") rfl T.b_list ze1 rfl) zad))))))))) (zah (zao pe_bl)) zau)
   (zae (ps_if (PW.pt (pw_or (zan (op_neLK (K:=K) rfl hu0) (zaR (N := ["_law_row_here"]) (own:=1) (caps := []) rfl (by kernel_rfl) (by kernel_rfl) (zaQ (K:=K) rfl (pe_ix (zaK (K:=K) rfl) (pv 3) zaf (fun _ _=>rfl))) (fun _ _ _ _ _=>zal (i:=0) (show List.Nodup (["_law_row_here"]:List Str) by decide +kernel) rfl (yaR rfl)) (fun _ _ _ _ _=>(zgh (zbF (zbz (zak (za3 (K:=K) rfl) (by rfl) T.b_isinstance zaE (zaa (pv 0) (zaa (zbH (v := .ty "tuple") rfl T.b_tuple zbT rfl) zad))))))) (fun _ _ _ _ _=>(pv 0))) (zaS zad) (zaA _)) (zbn (zbz (zak (za3 (K:=K) rfl) (by rfl) T.b_isinstance zaE (zaa (pe_ix (zaK (K:=K) rfl) (pv 3) zaf (fun _ _=>rfl)) (zaa (zbH (v := .ty "bool") rfl T.b_bool bt_bool rfl) zad))))))) (zah (zao pe_bl)) zau)
   (zae (zbp (pe_bm0K (K:=K) rfl ya8 PySem.F.slot_list_clear PySem.F.type_list_clear mt_clear (pe_ix (zaK (K:=K) rfl) (pv 3) zaf (fun _ _=>rfl))))
   (zah (zao (zeu (op_eqDK (K:=K) (n:=3) rfl hu4) (zam G_page_in (hr.mono (by decide)) rfl (zaa (pv 0) (zaa (pv 2) zad))) (pv 4) (zaA _))))))))))),?_⟩
  refine sq1 fun Rz1 qz1 => ?_
  refine (ea rfl (ea rfl ⟨p,tabs,ords,ea rfl ⟨hS,hok,.inl ⟨x,rfl,hx,fun r1 H1 s1 h1 => ?_⟩⟩⟩))
  refine qz1 (sq1 fun Rz2 qz2 => ?_)
  refine (ea rfl (ea rfl ⟨t,x,ex,ts,tabs,rfl,s1 _ _ ht,hT.same s1,hok,hx,fun r2 H2 s2 h2 => ?_⟩))
  have S2:=s1.trans s2
  cases ep:zeI tabs x with
  | none =>
   rw [ep] at h1 h2
   have h1:r1 = .non:=h1
   have h2:r2 = .non:=h2
   subst h1
   subst h2
   refine qz2 ?_
   refine (ea rfl (ea rfl (ite2 (fun _ => ?_) (fun z=>absurd rfl z))))
   refine (ea rfl (ea rfl (ite2 (fun _ => ?_) (fun z=>absurd rfl z))))
   exact (ea rfl (q H2 S2))
  | some pg =>
   obtain ⟨tn,n,m,rows⟩:=pg
   have h1':=h1
   rw [ep] at h1 h2
   obtain ⟨a,l,as,rfl,fa,fl,ha,hl,hr1⟩:=h1
   obtain ⟨a',l',as',rfl,fa',fl',ha',hl',hr2⟩:=h2
   refine qz2 (sq1 fun Rz3 qz3 => ?_)
   refine (ea rfl (ea rfl (ite2 (fun z=>absurd z (by simp)) (fun _ => ?_))))
   refine (ea rfl (ea rfl (ite2 (fun z=>absurd z (by simp)) (fun _ => ?_))))
   have ha2:=s2 _ _ ha
   have hl2:=s2 _ _ hl
   have hr2':=hr1.same s2
   refine qz3 (sq1 fun Rz4 qz4 => ?_)
   refine (ea rfl ⟨_,_,_,ea rfl ⟨.tup ha2,zbR,ea rfl (ite2 (fun z=>absurd z (by decide)) (fun _ => ?_))⟩⟩)
   refine (ea rfl (ea rfl ⟨⟨_,.inl ⟨zd3 ha2 hl2 hr2',zd3 ha' hl' hr2⟩⟩,ea rfl (ite2 (fun z=>absurd z (by decide)) (fun _ => ?_))⟩))
   refine (ea rfl (ixTc (SqT.of ha2) rfl ⟨_,_,_,ea rfl ⟨.lst hl2,zbR,ea rfl (ite2 (fun z=>absurd z (by decide)) (fun _ => ?_))⟩⟩))
   refine qz4 (sq1 fun Rz5 qz5 => ?_)
   refine (ea rfl (ixTc (SqT.of ha2) rfl ⟨l,rfl,⟨_,SqL.of hl2⟩,fun D hD => ?_⟩))
   refine zaz (J:=Itl K l) as.length (fun j τ H4=>∃ (v0:Option V),τ = [v0]∧Same H2 H4∧H4 D=some (.lst []))
    ⟨none,rfl,Same.new hD,zab⟩
    (fun j τ H4 hj ⟨_,_,sm4,_⟩=>⟨_,.ref as[j],SqL.of (sm4 _ _ hl2),by rw [yae,yab hj];rfl⟩)
    (by rintro τ H4 ⟨_,_,sm4,_⟩;exact ⟨_,SqL.of (sm4 _ _ hl2),by rw [yaa];exact yag _⟩) ?_ ?_
   ·rintro j τ H4 y H5 hj ⟨v0,rfl,sm4,hd4⟩ ⟨rfl,hy5⟩
    have e5:=hy5 _ (SqL.of (sm4 _ _ hl2))
    rw [yae,yab hj] at e5
    cases (yas e5)
    have rj:=sm4 _ _ (Paired.at hr2' j hj (by rw [← yaz hr2'];exact hj))
    refine (ea rfl ⟨_,_,_,ea rfl ⟨.tup rj,zbR,ea rfl (ite2 (fun z=>absurd z (by decide)) (fun _ => ?_))⟩⟩)
    exact (ea rfl ⟨sm4,hd4⟩)
   ·rintro τ H4 ⟨v0,rfl,sm4,hd4⟩
    refine ⟨ya2 _,fun B hB => ?_⟩
    have sB:Same H4 (upd H4 B (.lst [])):=Same.new hB
    have s5:=sm4.trans sB
    refine ⟨D,B,[],[],rfl,rfl,SqL.of (sB _ _ hd4),SqL.of zab,rfl,rfl,ea rfl (ite2 (fun z=>absurd z (by decide)) (fun _ => ?_))⟩
    generalize upd H4 B (.lst [])=H5 at s5 ⊢
    have ha5:=s5 _ _ ha2
    refine (ea rfl (ixTc (SqT.of ha5) rfl ⟨_,_,_,ea rfl ⟨.int n,(by rfl),ea rfl (ite2 (fun z=>absurd z (by decide)) (fun _ => ?_))⟩⟩))
    refine qz5 (sq1 fun Rz6 qz6 => ?_)
    refine (ea rfl (ixTc (SqT.of ha5) rfl ⟨.inl ⟨rfl,_,SqL.of (s5 _ _ hl2)⟩,l,ea rfl ⟨rfl,s5 _ _ hl2,?_⟩⟩))
    have S5:=S2.trans s5
    have s6:Same H (upd H5 l (.lst [])):=S5.upd fl
    have nl:l'≠l:=fun z=>by
     rw [z] at fl'
     rw [hl] at fl'
     cases fl'
    have ha6:upd H5 l (.lst []) a'=some (.tup [.str tn,.int n,.int m,.ref l']):=by
     rw [zar (fun z=>by rw [z,hl2] at ha';cases ha')]
     exact s5 _ _ ha'
    have hl6:upd H5 l (.lst []) l'=some (.lst (as'.map V.ref)):=by
     rw [zar nl]
     exact s5 _ _ hl'
    have hr6:RowsAt (upd H5 l (.lst [])) as' rows:=(hr2.same s5).updL (s5 _ _ hl2)
    refine qz6 ?_
    refine (ea rfl (ea rfl ⟨p,tabs,ords,ea rfl ⟨hS.kept s6,hok,.inl ⟨x,rfl,hx,fun r3 H7 s7 h7 => ?_⟩⟩⟩))
    rw [ep] at h7
    obtain ⟨a7,l7,as7,rfl,_,_,ha7,hl7,hr7⟩:=h7
    exact (ea rfl ⟨⟨_,.inl ⟨zd3 ha7 hl7 hr7,zd3 (s7 _ _ ha6) (s7 _ _ hl6) (hr6.same s7)⟩⟩,q _ (s6.trans s7)⟩)
end
theorem md0 (x:Int) {m:Int} (h:0 < m):0≤x % m:=ya7 _ (by omega)
theorem md1 (x:Int) {m:Int} (h:0 < m):x % m < m:=yaU _ h
theorem at_d {ds:List Int} {k:Nat} (h:k < ds.length):atI (ds.map V.int) (k:Int)=some (.int (ds.getD k 0)):=zbd (by omega) (by omega)
theorem zjc {x:Int} {n:Nat} (h:0 < n):∃ j:Nat,x % (n:Int)=(j:Int)∧j < n:=by
 obtain ⟨j,e⟩:=Int.eq_ofNat_of_zero_le (md0 x (show (0:Int) < n by omega))
 have:=md1 x (show (0:Int) < n by omega)
 exact ⟨j,e,by omega⟩
theorem zij (z:Str):∀ ys:List Str,(Str.join z ys).length≤(ys.map (·.length)).sum+ys.length*z.length
 | []=>ya2 _
 | [x]=>by
  show x.length≤_
  simp
 | x :: y :: r=>by
  have ih:=zij z (y :: r)
  show (x++z++Str.join z (y :: r)).length≤_
  rw [zaD,zaD,yan,yb9,yal,Nat.succ_mul]
  omega
theorem zcU:(" " : Str).length=1:=by decide +kernel
theorem jz_len {z:List Nat}:∀ R:List (List Nat),R ≠ []→(jz z R).length+z.length=(R.map (·.length)).sum+R.length*z.length
 | [],h=>absurd rfl h
 | [r],_=>by
  show r.length+z.length=_
  simp
 | r :: r2 :: R,_=>by
  have ih:=jz_len (z:=z) (r2 :: R) (by simp)
  show (r++z++jz z (r2 :: R)).length+z.length=_
  rw [yao,yao,yan,yb9,yal,Nat.succ_mul]
  omega
theorem split_sum (x:Str):((yaV x " | ").map (·.length)).sum+3*(yaV x " | ").length=x.length+3:=by
 have e:=zdb " | " (yaV x " | ")
 rw [sj] at e
 have l:=jz_len (z:=(" | " : Str).cps.toList) ((yaV x " | ").map (·.cps.toList)) (by simpa using zee x " | ")
 rw [← e,zcT,ybb,yaa,zcA] at l
 have e2:((yaV x " | ").map ((·.length) ∘ fun y:Str=>y.cps.toList)).sum=((yaV x " | ").map (·.length)).sum:=by
  refine congrArg List.sum (ye7 fun y _ => ?_)
  exact zcT y
 rw [e2] at l
 simp only [yal,ya5] at l
 omega
theorem zii (y:Str):∀ (l:List Str) (i:Nat),((l.set i y).map (·.length)).sum≤(l.map (·.length)).sum+y.length
 | [],_=>by simp
 | a :: l,0=>by
  rw [List.set_cons_zero,yan,yan,yb9,yb9]
  omega
 | a :: l,i+1=>by
  have:=zii y l i
  rw [List.set_cons_succ,yan,yan,yb9,yb9]
  omega
theorem mem_sum {y:Str}:∀ {l:List Str},y∈l→y.length≤(l.map (·.length)).sum
 | [],h=>nomatch h
 | a :: l,h=>by
  rw [yan,yb9]
  rcases yaN.mp h with rfl | h
  ·omega
  ·have:=mem_sum h
   omega
theorem sum_drop (k:Nat):∀ l:List Str,((l.drop k).map (·.length)).sum≤(l.map (·.length)).sum:=by
 induction k with
 | zero=>intro l;simp
 | succ k ih =>
  intro l
  cases l with
  | nil=>simp
  | cons x l =>
   rw [List.drop_succ_cons,yan,yb9]
   have:=ih l
   omega
theorem ziF (ps:List Str) {i:Nat} (h:i≤ps.length):cutV (ps.map V.str) none (some (i:Int))=(ps.take i).map V.str:=by
 have e:HT.sIx (ps.map V.str).length (ps.map V.str).length (some (i:Int))=i:=by
  rw [yaa]
  unfold HT.sIx
  have c:¬ ((i:Int) < 0):=by omega
  simp [c]
  omega
 have e2:HT.sIx (ps.map V.str).length 0 none=0:=rfl
 unfold cutV
 rw [e,e2,yfw,Nat.sub_zero,yd8]
theorem cut_fr (ps:List Str) {i:Nat} (h:i≤ps.length):cutV (ps.map V.str) (some (i:Int)) none=(ps.drop i).map V.str:=by
 have e:HT.sIx (ps.map V.str).length 0 (some (i:Int))=i:=by
  rw [yaa]
  unfold HT.sIx
  have c:¬ ((i:Int) < 0):=by omega
  simp [c]
  omega
 have e2:HT.sIx (ps.map V.str).length (ps.map V.str).length none=(ps.map V.str).length:=rfl
 unfold cutV
 rw [e,e2,yaA (by rw [yaX];exact yag _),yd5]
theorem zhP (ps:List Str) {i:Nat} (h:i < ps.length):cutV (ps.map V.str) (some ((i:Int)+1)) none=(ps.drop (i+1)).map V.str:=cut_fr ps (i:=i+1) h
theorem cut_sums (l:List Str) (i:Nat):((l.take i).map (·.length)).sum+((l.drop i).map (·.length)).sum=(l.map (·.length)).sum∧((l.drop (i+1)).map (·.length)).sum≤((l.drop i).map (·.length)).sum:=by
 constructor
 ·rw [← List.sum_append,← yah,List.take_append_drop]
 ·have:=sum_drop 1 (l.drop i)
  rw [List.drop_drop] at this
  exact this
theorem ix_n {n i:Nat} (h:i < n):ixN n (i:Int)=some i:=by
 unfold ixN
 simp
 omega
theorem zgW {ts:List Str} {j:Nat} (h:j < ts.length):atI (ts.map V.str) (j:Int)=some (.str ts[j]):=atI_nat (by rw [yae,yab h];rfl)
theorem slice_le (x:Str) (a b:Option Int):(ya3 x a b).length≤x.length:=ycF x a b
def zfc:Sp:=fun vs H Q _=>∃ (x o:Str) (da:Addr) (ds:List Int),vs = [.str x,.ref da,.str o]∧x.length≤3100∧o.length≤60∧H da=some (.lst (ds.map V.int))∧ds.length=4∧Draws ds ∧
 ∀ (l:Addr) (ys:List Str) (H':Hp),Same H H'→H' l=some (.lst (ys.map V.str))→(∀ y∈ys,y.length≤9999)→ys.length≤100→Q (.ref l) H'
theorem join_b {l:List Str} {b:Nat} (h:(l.map (·.length)).sum+3*l.length≤b):(ybG " | " l).length≤b:=by
 rw [tj]
 have:=zij " | " l
 rw [zbX] at this
 omega
section
variable {P:Program} {w:World} {K:PySem.W.Frag} {mg:Str→Option Value} {base:Heap}
theorem zfp (T:Txt K mg):FnOk P w K mg base CX0 1 T._law_spoilt.f T._law_spoilt.fd ["_law_text", "_law_draws_here", "_law_other"] zfc:=by
 refine T._law_spoilt.fn.ok sc__law_spoilt (fun vs H Q E h => ?_) (fun cdv A outer s H vs Q E hr h => ?_)
 ·obtain ⟨x,o,da,ds,rfl,_⟩:=h
  rfl
 ·obtain ⟨x,o,da,ds,rfl,hx,ho,hda,ld,dr,k⟩:=h
  refine jex ((zba (js_of (zat (i:=3) sc__law_spoilt.nd rfl (yaR rfl) (zaY (K:=K) rfl yaQ yb1 yb2 zcM (zax zcg (pv 0) zaJ (zaB (pe_un zdQ zaf))) (zaa zay zad))))
   (zba (js_of (zat (i:=4) sc__law_spoilt.nd rfl (yaR rfl) (pe_op zaX (pe_ix (zaj (K:=K) rfl) (pv 1) zaf (fun _ _=>rfl)) (zak (zap (K:=K) rfl) (by rfl) T.b_len za0 (zaa (pv 3) zad)))))
   (zba (js_of (zat (i:=5) sc__law_spoilt.nd rfl (yaR rfl) (pe_op zaX (pe_ix (zaj (K:=K) rfl) (pv 1) zaf (fun _ _=>rfl)) (zak (zap (K:=K) rfl) (by rfl) T.b_len za0 (zaa (pv 3) zad)))))
   (zba (js_of (zat (i:=6) sc__law_spoilt.nd rfl (yaR rfl) (zav (zcP (K:=K) rfl) (by rfl) T.b_list ze1 (zaa (pv 3) zad))))
   (zba (js_of (ps_asg (zce (zaa (pe_ix (zaj (K:=K) rfl) (pv 3) (pv 5) (fun _ _=>rfl)) (zaa (pe_ix (zaj (K:=K) rfl) (pv 3) (pv 4) (fun _ _=>rfl)) zad))) (zbL (K:=K) (n:=2) rfl rfl (zaC (pg_sub (pv 6) (pv 4) ziG) (zaC (pg_sub (pv 6) (pv 5) ziG) zbM)))))
   (zba (js_set (i:=7) sc__law_spoilt.nd rfl (yaR rfl) (je_lst (zco (pv 6) (zco (pe_op zcJ (zax (za4 (K:=K) rfl) (pv 3) zaJ (zaB (pv 4))) (zax (za4 (K:=K) rfl) (pv 3) (zaB (pe_op za6 (pv 4) zaf)) zaJ)) (zco (pe_op zcJ (pe_op zcJ (zax (za4 (K:=K) rfl) (pv 3) zaJ (zaB (pv 4))) (zaS (zaa (pe_ix (zaj (K:=K) rfl) (pv 3) (pv 4) (fun _ _=>rfl)) zad))) (zax (za4 (K:=K) rfl) (pv 3) (zaB (pv 4)) zaJ)) (zco (pe_op zcJ (pv 3) (zaS (zaa (pv 2) zad))) ja_nil zcO) zcO) zcO) se_Name)))
   (zba (js_of (zat (i:=7) sc__law_spoilt.nd rfl (yaR rfl) (pe_op zcJ (pv 7) (zaS (zaa (pe_op zcJ (pe_op zcJ (zax (za4 (K:=K) rfl) (pv 3) zaJ (zaB (pv 4))) (zaS (zaa (pe_op zaw (pe_ix (zaj (K:=K) rfl) (pv 3) (pv 4) (fun _ _=>rfl)) zay) zad))) (zax (za4 (K:=K) rfl) (pv 3) (zaB (pe_op za6 (pv 4) zaf)) zaJ)) (zaa (pe_op zcJ (pe_op zcJ (zax (za4 (K:=K) rfl) (pv 3) zaJ (zaB (pv 4))) (zaS (zaa (pe_op zaw (pe_ix (zaj (K:=K) rfl) (pv 3) (pv 4) (fun _ _=>rfl)) zay) zad))) (zax (za4 (K:=K) rfl) (pv 3) (zaB (pe_op za6 (pv 4) zaf)) zaJ)) zad))))))
   (zba (js_of (zat (i:=8) sc__law_spoilt.nd rfl (yaR rfl) (pe_op zaX (pe_ix (zaj (K:=K) rfl) (pv 1) zaf (fun _ _=>rfl)) (pe_op za6 (zak za8 (by rfl) T.b_len za0 (zaa (pv 0) zad)) zaf))))
   (zba (js_of (zat (i:=9) sc__law_spoilt.nd rfl (yaR rfl) (pe_ix ix_str zay (pe_op zaX (pe_ix (zaj (K:=K) rfl) (pv 1) zaf (fun _ _=>rfl)) zaf) (fun _ _=>rfl))))
   (zba (js_set (i:=10) sc__law_spoilt.nd rfl (yaR rfl) (je_op zcJ (zaR (N := ["_law_one"]) (own:=1) (caps := []) rfl (by kernel_rfl) (by kernel_rfl) (zaQ (K:=K) rfl (pv 7)) (fun _ _ _ _ _=>zal (i:=0) (show List.Nodup (["_law_one"]:List Str) by decide +kernel) rfl (yaR rfl)) (fun _ _ _ _ _=>zaM) (fun _ _ _ _ _=>(pe_op zaw (zaY (K:=K) rfl yaQ ybV ybW (zcl (K:=K) rfl) zay (zaa (pv 0) zad)) zay))) (je_lst (zco (pe_op zaw (pv 0) zay) (zco (zax zcg (pv 0) zaJ (zaB (pe_un zdQ zaf))) (zco (pe_op zaw (pv 0) zay) (zco (pe_op zaw zay (pv 0)) (zco zay (zco (pe_op zaw (pv 0) zay) ja_nil zcO) zhX) zcO) zcO) zhk) zcO))))
   (zba (js_of (zat (i:=10) sc__law_spoilt.nd rfl (yaR rfl) (pe_op zcJ (pv 10) (zaS (zaa (pe_op zaw (pe_op zaw (zax zcg (pv 0) zaJ (zaB (pv 8))) (pv 9)) (zax zcg (pv 0) (zaB (pv 8)) zaJ)) (zaa (pe_op zaw (zax zcg (pv 0) zaJ (zaB (pv 8))) (zax zcg (pv 0) (zaB (pe_op za6 (pv 8) zaf)) zaJ)) (zaa (zax zcg (pv 0) zaJ (zaB (pv 8))) zad)))))))
   (zba (js_of (zbp (zaY (K:=K) rfl ya8 ybE ybF zbA (pv 10) (zaa (pe_op zaw (pe_op zaw (zax zcg (pv 0) zaJ (zaB (pv 8))) (pv 9)) (zax zcg (pv 0) (zaB (pe_op za6 (pv 8) zaf)) zaJ)) zad))))
   (zba (js_of (ps_if (zan op_lt (zak za8 (by rfl) T.b_len za0 (zaa (pv 0) zad)) zaf (zaA _)) (zah (zbp (zaY (K:=K) rfl ya8 ydT ydU ze7 (pv 10) (zaa (zaR (N := ["_law_k", "_law_text"]) (own:=1) (caps := [0]) rfl (by kernel_rfl) (by kernel_rfl) (zcI rfl T.b_range (zaa (zak za8 (by rfl) T.b_len za0 (zaa (pv 0) zad)) zad)) (fun _ _ _ _ _=>zal (i:=0) (show List.Nodup (["_law_k", "_law_text"]:List Str) by decide +kernel) rfl (yaR rfl)) (fun _ _ _ _ _=>zaM) (fun _ _ _ _ _=>(zax zcg (pv 1) zaJ (zaB (pv 0))))) zad)))) zau))
   (jss_one (js_of (zao (pv 10)))))))))))))))))) ?_
  have S0:Same H H:=Same.refl _
  have ls:(ya3 x none (some (-1))).length≤x.length:=ycF x none (some (-1))
  refine sq1 fun Rz1 qz1 => ?_
  refine (ea rfl (ea rfl (ea rfl ⟨x,rfl,zac (show x.length≤100000 by omega),rfl,_,ea rfl ⟨rfl,(by decide +kernel),zac (show (ya3 x none (some (-1))).length+2≤100000 by omega),fun A hA => ?_⟩⟩)))
  generalize e1:upd H A _=G1
  have s1:Same H G1:=e1 ▸ Same.new hA
  have rA:G1 A=some (.lst ((yaV (ya3 x none (some (-1))) " | ").map V.str)):=by rw [← e1];exact zab
  clear e1
  have S1:Same H G1:=S0.trans s1
  have wt:=split_sum (ya3 x none (some (-1)))
  have pne:1≤(yaV (ya3 x none (some (-1))) " | ").length:=split_pos _ " | "
  generalize yaV (ya3 x none (some (-1))) " | " = ps at rA wt pne
  have psum:(ps.map (·.length)).sum+3*ps.length≤3103:=by omega
  have pel:∀ y∈ps,y.length≤3100:=fun y hy=>by have:=mem_sum hy;omega
  refine qz1 (sq1 fun Rz2 qz2 => ?_)
  refine (ea rfl (ixLc (SqL.of (S1 _ _ hda)) (at_d (k:=0) (by omega)) (ea rfl ⟨A,ea rfl ⟨.inl (SqL.of rA),_,ea rfl ⟨rfl,(by rw [yaa];omega),?_⟩⟩⟩)))
  dsimp only
  rw [yaa]
  obtain ⟨i,ei,hi⟩:=zjc (x:=ds.getD 0 0) (n:=ps.length) (by omega)
  rw [ei]
  refine qz2 (sq1 fun Rz3 qz3 => ?_)
  refine (ea rfl (ixLc (SqL.of (S1 _ _ hda)) (at_d (k:=1) (by omega)) (ea rfl ⟨A,ea rfl ⟨.inl (SqL.of rA),_,ea rfl ⟨rfl,(by rw [yaa];omega),?_⟩⟩⟩)))
  dsimp only
  rw [yaa]
  obtain ⟨j,ej,hj⟩:=zjc (x:=ds.getD 1 0) (n:=ps.length) (by omega)
  rw [ej]
  refine qz3 (sq1 fun Rz4 qz4 => ?_)
  refine (ea rfl ⟨A,ea rfl ⟨.inl (SqL.of rA),fun B hB => ?_⟩⟩)
  generalize e2:upd G1 B _=G2
  have s2:Same G1 G2:=e2 ▸ Same.new hB
  have rB:G2 B=some (.lst (ps.map V.str)):=by rw [← e2];exact zab
  clear e2
  have S2:Same H G2:=S1.trans s2
  refine qz4 (sq1 fun Rz5 qz5 => ?_)
  refine (ea rfl (ea rfl (ixL (SqL.of (s2 _ _ rA)) (zgW hj) (ea rfl (ea rfl (ixL (SqL.of (s2 _ _ rA)) (zgW hi) ⟨zac (show 2≤100000 by decide),fun U hU => ?_⟩))))))
  generalize e3:upd G2 U _=G3
  have s3:Same G2 G3:=e3 ▸ Same.new hU
  have rU:G3 U=some (.tup [.str ps[j],.str ps[i]]):=by rw [← e3];exact zab
  clear e3
  have S3:Same H G3:=S2.trans s3
  refine ⟨U,ea rfl ⟨SqT.of rU,rfl,_,ea rfl (ea rfl (ea rfl ⟨B,_,_,i,rfl,rfl,(s3 _ _ rB),(by rw [yaa];exact ix_n hi),?_⟩))⟩⟩
  have eB1:((ps.map V.str).set i (V.str ps[j]))=(ps.set i ps[j]).map V.str:=(List.map_set ..).symm
  rw [eB1]
  have hB0:H B=none:=S1.free hB
  generalize e4:upd G3 B _=G4
  have rB1:G4 B=some (.lst ((ps.set i ps[j]).map V.str)):=by rw [← e4];exact zab
  have S4:Same H G4:=e4 ▸ S3.upd hB0
  have kp4:∀ b o,b≠B→G3 b=some o→G4 b=some o:=fun b o nb z=>by rw [← e4,zar nb];exact z
  clear e4
  refine ⟨_,ea rfl (ea rfl (ea rfl ⟨B,_,_,j,rfl,rfl,rB1,(by rw [yaa,yeV];exact ix_n hj),rfl,?_⟩))⟩
  have eB2:(((ps.set i ps[j]).map V.str).set j (V.str ps[i]))=((ps.set i ps[j]).set j ps[i]).map V.str:=(List.map_set ..).symm
  rw [eB2]
  generalize e5:upd G4 B _=G5
  have rB2:G5 B=some (.lst (((ps.set i ps[j]).set j ps[i]).map V.str)):=by rw [← e5];exact zab
  have S5:Same H G5:=e5 ▸ S4.upd hB0
  have kp5:∀ b o,b≠B→G4 b=some o→G5 b=some o:=fun b o nb z=>by rw [← e5,zar nb];exact z
  clear e5
  have nAB:A≠B:=fun z=>by rw [← z,rA] at hB;cases hB
  replace rA:=kp5 _ _ nAB (kp4 _ _ nAB (s3 _ _ (s2 _ _ rA)))
  have pei:=pel _ (yam hi)
  have pej:=pel _ (yam hj)
  obtain ⟨tn,etn⟩:∃ tn,tn=(ps.set i ps[j]).set j ps[i]:=⟨_,rfl⟩
  rw [← etn] at rB2
  have rB:=rB2
  have tnl:tn.length=ps.length:=by rw [etn,yeV,yeV]
  have tns:(tn.map (·.length)).sum≤(ps.map (·.length)).sum+6200:=by
   rw [etn]
   have a:=zii ps[i] (ps.set i ps[j]) j
   have b:=zii ps[j] ps i
   omega
  clear etn rB1 rB2 kp5 kp4 rU
  try dsimp only [gName]
  generalize hst:List.set _ 6 (some (V.ref B))=st
  have est:st = [some (.str x),some (.ref da),some (.str o),some (V.ref A),some (V.int (i:Int)),some (V.int (j:Int)),some (V.ref B),none,none,none,none]:=by rw [← hst];rfl
  subst est
  clear hst
  obtain ⟨su1,su2⟩:=cut_sums ps i
  refine qz5 (sq1 fun Rz6 qz6 => ?_)
  refine (ea rfl ?_)
  refine (ea rfl (ea rfl (ea rfl ⟨A,ea rfl ⟨SqL.of rA,fun E1 hE1 => ?_⟩⟩)))
  generalize e6:upd G5 E1 _=G6
  have s6:Same G5 G6:=e6 ▸ Same.new hE1
  have rE1:G6 E1=some (.lst (cutV (ps.map V.str) none (some (i:Int)))):=by rw [← e6];exact zab
  clear e6
  have S6:Same H G6:=S5.trans s6
  rw [ziF ps (ybs hi)] at rE1
  refine (ea rfl (ea rfl ⟨_,ea rfl ⟨rfl,ea rfl ⟨A,ea rfl ⟨SqL.of (s6 _ _ rA),fun E2 hE2 => ?_⟩⟩⟩⟩))
  generalize e7:upd G6 E2 _=G7
  have s7:Same G6 G7:=e7 ▸ Same.new hE2
  have rE2:G7 E2=some (.lst (cutV (ps.map V.str) (some ((i:Int)+1)) none)):=by rw [← e7];exact zab
  clear e7
  have S7:Same H G7:=S6.trans s7
  rw [zhP ps hi] at rE2
  refine ⟨E1,E2,_,ea rfl ⟨rfl,(s7 _ _ rE1),rE2,zac (by simp only [yaa,yao,yaj,yaX,yal,ya5];omega),fun E3 hE3 => ?_⟩⟩
  generalize e8:upd G7 E3 _=G8
  have s8:Same G7 G8:=e8 ▸ Same.new hE3
  have rE3:G8 E3=some (.lst ((ps.take i).map V.str++(ps.drop (i+1)).map V.str)):=by rw [← e8];exact zab
  clear e8
  have S8:Same H G8:=S7.trans s8
  rw [← yah] at rE3
  refine (ea rfl (ea rfl (ea rfl ⟨A,ea rfl ⟨SqL.of (s8 _ _ (s7 _ _ (s6 _ _ rA))),fun F1 hF1 => ?_⟩⟩)))
  generalize e9:upd G8 F1 _=G9
  have s9:Same G8 G9:=e9 ▸ Same.new hF1
  have rF1:G9 F1=some (.lst (cutV (ps.map V.str) none (some (i:Int)))):=by rw [← e9];exact zab
  clear e9
  have S9:Same H G9:=S8.trans s9
  rw [ziF ps (ybs hi)] at rF1
  refine (ea rfl (ea rfl (ixL (SqL.of (s9 _ _ (s8 _ _ (s7 _ _ (s6 _ _ rA))))) (zgW hi) ⟨zac (show 1≤100000 by decide),fun F2 hF2 => ?_⟩)))
  generalize e10:upd G9 F2 _=G10
  have s10:Same G9 G10:=e10 ▸ Same.new hF2
  have rF2:G10 F2=some (.lst [.str ps[i]]):=by rw [← e10];exact zab
  clear e10
  have S10:Same H G10:=S9.trans s10
  refine ⟨F1,F2,_,ea rfl ⟨rfl,(s10 _ _ rF1),rF2,zac (by simp only [yaa,yao,yaj,yaX,yal,ya5];omega),fun F3 hF3 => ?_⟩⟩
  generalize e11:upd G10 F3 _=G11
  have s11:Same G10 G11:=e11 ▸ Same.new hF3
  have rF3:G11 F3=some (.lst ((ps.take i).map V.str ++ [.str (ps[i])])):=by rw [← e11];exact zab
  clear e11
  have S11:Same H G11:=S10.trans s11
  have fF3:(ps.take i).map V.str ++ [V.str (ps[i])]=(ps.take i ++ [ps[i]]).map V.str:=by rw [yah];rfl
  rw [fF3] at rF3
  refine (ea rfl (ea rfl (ea rfl ⟨A,ea rfl ⟨SqL.of (s11 _ _ (s10 _ _ (s9 _ _ (s8 _ _ (s7 _ _ (s6 _ _ rA)))))),fun F4 hF4 => ?_⟩⟩)))
  generalize e12:upd G11 F4 _=G12
  have s12:Same G11 G12:=e12 ▸ Same.new hF4
  have rF4:G12 F4=some (.lst (cutV (ps.map V.str) (some (i:Int)) none)):=by rw [← e12];exact zab
  clear e12
  have S12:Same H G12:=S11.trans s12
  rw [cut_fr ps (ybs hi)] at rF4
  refine ⟨F3,F4,_,ea rfl ⟨rfl,(s12 _ _ rF3),rF4,zac (by simp only [yaa,yao,yaj,yaX,yal,ya5];omega),fun F5 hF5 => ?_⟩⟩
  generalize e13:upd G12 F5 _=G13
  have s13:Same G12 G13:=e13 ▸ Same.new hF5
  have rF5:G13 F5=some (.lst ((ps.take i ++ [ps[i]]).map V.str++(ps.drop i).map V.str)):=by rw [← e13];exact zab
  clear e13
  have S13:Same H G13:=S12.trans s13
  rw [← yah] at rF5
  refine (ea rfl (ea rfl ⟨zac (show 1≤100000 by decide),fun J1 hJ1 => ?_⟩))
  generalize e14:upd G13 J1 _=G14
  have s14:Same G13 G14:=e14 ▸ Same.new hJ1
  have rJ1:G14 J1=some (.lst [.str o]):=by rw [← e14];exact zab
  clear e14
  have S14:Same H G14:=S13.trans s14
  refine ⟨A,J1,_,ea rfl ⟨rfl,(s14 _ _ (s13 _ _ (s12 _ _ (s11 _ _ (s10 _ _ (s9 _ _ (s8 _ _ (s7 _ _ (s6 _ _ rA))))))))),rJ1,zac (by simp only [yaa,yao,yaj,yaX,yal,ya5];omega),fun J2 hJ2 => ?_⟩⟩
  generalize e15:upd G14 J2 _=G15
  have s15:Same G14 G15:=e15 ▸ Same.new hJ2
  have rJ2:G15 J2=some (.lst ((ps).map V.str ++ [.str (o)])):=by rw [← e15];exact zab
  clear e15
  have S15:Same H G15:=S14.trans s15
  have fJ2:(ps).map V.str ++ [V.str (o)]=(ps ++ [o]).map V.str:=by rw [yah];rfl
  rw [fJ2] at rJ2
  refine ⟨zac (show 4≤100000 by decide),fun Q0 hQ0 => ?_⟩
  generalize e16:upd G15 Q0 _=G16
  have s16:Same G15 G16:=e16 ▸ Same.new hQ0
  have rQ0:G16 Q0=some (.lst [.ref B,.ref E3,.ref F5,.ref J2]):=by rw [← e16];exact zab
  clear e16
  have S16:Same H G16:=S15.trans s16
  try dsimp only [gName]
  generalize hst:List.set _ 7 (some (V.ref Q0))=st
  have est:st = [some (.str x),some (.ref da),some (.str o),some (V.ref A),some (V.int (i:Int)),some (V.int (j:Int)),some (V.ref B),some (V.ref Q0),none,none,none]:=by rw [← hst];rfl
  subst est
  clear hst
  have b1:(" " : Str).length=1:=zcU
  have b2:(" 1" : Str).length=2:=by decide +kernel
  refine qz6 (sq1 fun Rz7 qz7 => ?_)
  refine (ea rfl (ea rfl (ea rfl (ea rfl ⟨A,ea rfl ⟨SqL.of (s16 _ _ (s15 _ _ (s14 _ _ (s13 _ _ (s12 _ _ (s11 _ _ (s10 _ _ (s9 _ _ (s8 _ _ (s7 _ _ (s6 _ _ rA))))))))))),fun K1 hK1 => ?_⟩⟩))))
  generalize e17:upd G16 K1 _=G17
  have s17:Same G16 G17:=e17 ▸ Same.new hK1
  have rK1:G17 K1=some (.lst (cutV (ps.map V.str) none (some (i:Int)))):=by rw [← e17];exact zab
  clear e17
  have S17:Same H G17:=S16.trans s17
  rw [ziF ps (ybs hi)] at rK1
  refine (ea rfl (ea rfl (ixL (SqL.of (s17 _ _ (s16 _ _ (s15 _ _ (s14 _ _ (s13 _ _ (s12 _ _ (s11 _ _ (s10 _ _ (s9 _ _ (s8 _ _ (s7 _ _ (s6 _ _ rA))))))))))))) (zgW hi) ⟨_,ea rfl ⟨rfl,zac (show _≤100000 by rw [b2];omega),zac (show 1≤100000 by decide),fun K2 hK2 => ?_⟩⟩)))
  generalize e18:upd G17 K2 _=G18
  have s18:Same G17 G18:=e18 ▸ Same.new hK2
  have rK2:G18 K2=some (.lst [.str (ps[i] ++ " 1")]):=by rw [← e18];exact zab
  clear e18
  have S18:Same H G18:=S17.trans s18
  refine ⟨K1,K2,_,ea rfl ⟨rfl,(s18 _ _ rK1),rK2,zac (by simp only [yaa,yao,yaj,yaX,yal,ya5];omega),fun K3 hK3 => ?_⟩⟩
  generalize e19:upd G18 K3 _=G19
  have s19:Same G18 G19:=e19 ▸ Same.new hK3
  have rK3:G19 K3=some (.lst ((ps.take i).map V.str ++ [.str (ps[i] ++ " 1")])):=by rw [← e19];exact zab
  clear e19
  have S19:Same H G19:=S18.trans s19
  have fK3:(ps.take i).map V.str ++ [V.str (ps[i] ++ " 1")]=(ps.take i ++ [ps[i] ++ " 1"]).map V.str:=by rw [yah];rfl
  rw [fK3] at rK3
  refine (ea rfl (ea rfl ⟨_,ea rfl ⟨rfl,ea rfl ⟨A,ea rfl ⟨SqL.of (s19 _ _ (s18 _ _ (s17 _ _ (s16 _ _ (s15 _ _ (s14 _ _ (s13 _ _ (s12 _ _ (s11 _ _ (s10 _ _ (s9 _ _ (s8 _ _ (s7 _ _ (s6 _ _ rA)))))))))))))),fun K4 hK4 => ?_⟩⟩⟩⟩))
  generalize e20:upd G19 K4 _=G20
  have s20:Same G19 G20:=e20 ▸ Same.new hK4
  have rK4:G20 K4=some (.lst (cutV (ps.map V.str) (some ((i:Int)+1)) none)):=by rw [← e20];exact zab
  clear e20
  have S20:Same H G20:=S19.trans s20
  rw [zhP ps hi] at rK4
  refine ⟨K3,K4,_,ea rfl ⟨rfl,(s20 _ _ rK3),rK4,zac (by simp only [yaa,yao,yaj,yaX,yal,ya5];omega),fun K5 hK5 => ?_⟩⟩
  generalize e21:upd G20 K5 _=G21
  have s21:Same G20 G21:=e21 ▸ Same.new hK5
  have rK5:G21 K5=some (.lst ((ps.take i ++ [ps[i] ++ " 1"]).map V.str++(ps.drop (i+1)).map V.str)):=by rw [← e21];exact zab
  clear e21
  have S21:Same H G21:=S20.trans s21
  rw [← yah] at rK5
  refine (ea rfl (ea rfl (ea rfl ⟨A,ea rfl ⟨SqL.of (s21 _ _ (s20 _ _ (s19 _ _ (s18 _ _ (s17 _ _ (s16 _ _ (s15 _ _ (s14 _ _ (s13 _ _ (s12 _ _ (s11 _ _ (s10 _ _ (s9 _ _ (s8 _ _ (s7 _ _ (s6 _ _ rA)))))))))))))))),fun L1 hL1 => ?_⟩⟩)))
  generalize e22:upd G21 L1 _=G22
  have s22:Same G21 G22:=e22 ▸ Same.new hL1
  have rL1:G22 L1=some (.lst (cutV (ps.map V.str) none (some (i:Int)))):=by rw [← e22];exact zab
  clear e22
  have S22:Same H G22:=S21.trans s22
  rw [ziF ps (ybs hi)] at rL1
  refine (ea rfl (ea rfl (ixL (SqL.of (s22 _ _ (s21 _ _ (s20 _ _ (s19 _ _ (s18 _ _ (s17 _ _ (s16 _ _ (s15 _ _ (s14 _ _ (s13 _ _ (s12 _ _ (s11 _ _ (s10 _ _ (s9 _ _ (s8 _ _ (s7 _ _ (s6 _ _ rA)))))))))))))))))) (zgW hi) ⟨_,ea rfl ⟨rfl,zac (show _≤100000 by rw [b1];omega),zac (show 1≤100000 by decide),fun L2 hL2 => ?_⟩⟩)))
  generalize e23:upd G22 L2 _=G23
  have s23:Same G22 G23:=e23 ▸ Same.new hL2
  have rL2:G23 L2=some (.lst [.str (ps[i] ++ " ")]):=by rw [← e23];exact zab
  clear e23
  have S23:Same H G23:=S22.trans s23
  refine ⟨L1,L2,_,ea rfl ⟨rfl,(s23 _ _ rL1),rL2,zac (by simp only [yaa,yao,yaj,yaX,yal,ya5];omega),fun L3 hL3 => ?_⟩⟩
  generalize e24:upd G23 L3 _=G24
  have s24:Same G23 G24:=e24 ▸ Same.new hL3
  have rL3:G24 L3=some (.lst ((ps.take i).map V.str ++ [.str (ps[i] ++ " ")])):=by rw [← e24];exact zab
  clear e24
  have S24:Same H G24:=S23.trans s24
  have fL3:(ps.take i).map V.str ++ [V.str (ps[i] ++ " ")]=(ps.take i ++ [ps[i] ++ " "]).map V.str:=by rw [yah];rfl
  rw [fL3] at rL3
  refine (ea rfl (ea rfl ⟨_,ea rfl ⟨rfl,ea rfl ⟨A,ea rfl ⟨SqL.of (s24 _ _ (s23 _ _ (s22 _ _ (s21 _ _ (s20 _ _ (s19 _ _ (s18 _ _ (s17 _ _ (s16 _ _ (s15 _ _ (s14 _ _ (s13 _ _ (s12 _ _ (s11 _ _ (s10 _ _ (s9 _ _ (s8 _ _ (s7 _ _ (s6 _ _ rA))))))))))))))))))),fun L4 hL4 => ?_⟩⟩⟩⟩))
  generalize e25:upd G24 L4 _=G25
  have s25:Same G24 G25:=e25 ▸ Same.new hL4
  have rL4:G25 L4=some (.lst (cutV (ps.map V.str) (some ((i:Int)+1)) none)):=by rw [← e25];exact zab
  clear e25
  have S25:Same H G25:=S24.trans s25
  rw [zhP ps hi] at rL4
  refine ⟨L3,L4,_,ea rfl ⟨rfl,(s25 _ _ rL3),rL4,zac (by simp only [yaa,yao,yaj,yaX,yal,ya5];omega),fun L5 hL5 => ?_⟩⟩
  generalize e26:upd G25 L5 _=G26
  have s26:Same G25 G26:=e26 ▸ Same.new hL5
  have rL5:G26 L5=some (.lst ((ps.take i ++ [ps[i] ++ " "]).map V.str++(ps.drop (i+1)).map V.str)):=by rw [← e26];exact zab
  clear e26
  have S26:Same H G26:=S25.trans s26
  rw [← yah] at rL5
  refine ⟨zac (show 2≤100000 by decide),fun Q2 hQ2 => ?_⟩
  generalize e27:upd G26 Q2 _=G27
  have s27:Same G26 G27:=e27 ▸ Same.new hQ2
  have rQ2:G27 Q2=some (.lst [.ref K5,.ref L5]):=by rw [← e27];exact zab
  clear e27
  have S27:Same H G27:=S26.trans s27
  refine ⟨Q0,Q2,_,ea rfl ⟨rfl,(s27 _ _ (s26 _ _ (s25 _ _ (s24 _ _ (s23 _ _ (s22 _ _ (s21 _ _ (s20 _ _ (s19 _ _ (s18 _ _ (s17 _ _ rQ0))))))))))),rQ2,zac (show 6≤100000 by decide),fun Q1 hQ1 => ?_⟩⟩
  generalize e28:upd G27 Q1 _=G28
  have s28:Same G27 G28:=e28 ▸ Same.new hQ1
  have rQ1:G28 Q1=some (.lst [.ref B,.ref E3,.ref F5,.ref J2,.ref K5,.ref L5]):=by rw [← e28];exact zab
  clear e28
  have S28:Same H G28:=S27.trans s28
  obtain ⟨LL,hLL⟩:∃ LL:List (List Str),LL = [tn,ps.take i++ps.drop (i+1),ps.take i ++ [ps[i]]++ps.drop i,ps ++ [o],ps.take i ++ [ps[i] ++ " 1"]++ps.drop (i+1),ps.take i ++ [ps[i] ++ " "]++ps.drop (i+1)]:=⟨_,rfl⟩
  have bLL:∀ l∈LL,(l.map (·.length)).sum+3*l.length≤9400:=fun l hl=>by
   rw [hLL] at hl
   simp only [yaN,ydg,or_false] at hl
   rcases hl with rfl | rfl | rfl | rfl | rfl | rfl
   ·omega
   all_goals
    simp only [yah,List.sum_append,yao,yaj,yaX,yan,yeu,yb9,List.sum_nil,yal,ya5,zaD,b1,b2]
    omega
  have pLL:Paired (fun (a:Addr) (l:List Str)=>G28 a=some (.lst (l.map V.str))) [B,E3,F5,J2,K5,L5] LL:=by
   rw [hLL]
   exact .cons (s28 _ _ (s27 _ _ (s26 _ _ (s25 _ _ (s24 _ _ (s23 _ _ (s22 _ _ (s21 _ _ (s20 _ _ (s19 _ _ (s18 _ _ (s17 _ _ (s16 _ _ (s15 _ _ (s14 _ _ (s13 _ _ (s12 _ _ (s11 _ _ (s10 _ _ (s9 _ _ (s8 _ _ (s7 _ _ (s6 _ _ rB))))))))))))))))))))))) (.cons (s28 _ _ (s27 _ _ (s26 _ _ (s25 _ _ (s24 _ _ (s23 _ _ (s22 _ _ (s21 _ _ (s20 _ _ (s19 _ _ (s18 _ _ (s17 _ _ (s16 _ _ (s15 _ _ (s14 _ _ (s13 _ _ (s12 _ _ (s11 _ _ (s10 _ _ (s9 _ _ rE3)))))))))))))))))))) (.cons (s28 _ _ (s27 _ _ (s26 _ _ (s25 _ _ (s24 _ _ (s23 _ _ (s22 _ _ (s21 _ _ (s20 _ _ (s19 _ _ (s18 _ _ (s17 _ _ (s16 _ _ (s15 _ _ (s14 _ _ rF5))))))))))))))) (.cons (s28 _ _ (s27 _ _ (s26 _ _ (s25 _ _ (s24 _ _ (s23 _ _ (s22 _ _ (s21 _ _ (s20 _ _ (s19 _ _ (s18 _ _ (s17 _ _ (s16 _ _ rJ2))))))))))))) (.cons (s28 _ _ (s27 _ _ (s26 _ _ (s25 _ _ (s24 _ _ (s23 _ _ (s22 _ _ rK5))))))) (.cons (s28 _ _ (s27 _ _ rL5)) .nil)))))
  have lLL:LL.length=6:=by rw [hLL];rfl
  try dsimp only [gName]
  generalize hst:List.set _ 7 (some (V.ref Q1))=st
  have est:st = [some (.str x),some (.ref da),some (.str o),some (V.ref A),some (V.int (i:Int)),some (V.int (j:Int)),some (V.ref B),some (V.ref Q1),none,none,none]:=by rw [← hst];rfl
  subst est
  clear hst
  refine qz7 (sq1 fun Rz8 qz8 => ?_)
  refine (ea rfl (ixLc (SqL.of (S28 _ _ hda)) (at_d (k:=2) (by omega)) (ea rfl (ea rfl ⟨zac (by omega),_,ea rfl ⟨rfl,_,ea rfl ⟨rfl,(by omega),?_⟩⟩⟩))))
  dsimp only
  obtain ⟨pl,epl⟩:∃ v,v=ds.getD 2 0 % ((x.length:Int)+1):=⟨_,rfl⟩
  rw [← epl]
  have sgl:(" |;-01a9p" : Str).cps.toList.length=9:=by decide +kernel
  refine qz8 (sq1 fun Rz9 qz9 => ?_)
  refine (ea rfl (ixLc (SqL.of (S28 _ _ hda)) (at_d (k:=3) (by omega)) (opJc (show (0:Int) < 9 by decide) ⟨_,_,ea rfl ⟨rfl,zac (by decide +kernel),ziC (md0 _ (by decide)) (by rw [sgl];exact md1 _ (by decide)),?_⟩⟩)))
  dsimp only
  generalize (" |;-01a9p" : Str).cps.toList.getD (ds.getD 3 0 % 9).toNat 0=sg
  try dsimp only [gName]
  generalize hst:List.set _ 9 (some (V.str ⟨#[sg]⟩))=st
  have est:st = [some (.str x),some (.ref da),some (.str o),some (V.ref A),some (V.int (i:Int)),some (V.int (j:Int)),some (V.ref B),some (V.ref Q1),some (V.int pl),some (V.str ⟨#[sg]⟩),none]:=by rw [← hst];rfl
  subst est
  clear hst
  refine qz9 (sq1 fun Rz10 qz10 => ?_)
  refine (ea rfl ⟨Q1,rfl,⟨_,SqL.of rQ1⟩,fun R1 hR1 => ?_⟩)
  have sm1:(";" : Str).length=1:=by decide +kernel
  refine zaz (J:=Itl K Q1) 6 (fun m τ H6=>∃ v1,τ = [v1]∧Same G28 H6∧H6 R1=some (.lst (((LL.take m).map fun l=>ybG " | " l ++ ";").map V.str)))
   ⟨none,rfl,Same.new hR1,zab⟩
   (fun m τ H6 hm ⟨_,_,sm,_⟩=>⟨_,.ref ([B,E3,F5,J2,K5,L5][m]'hm),SqL.of (sm _ _ rQ1),by rw [show ([.ref B,.ref E3,.ref F5,.ref J2,.ref K5,.ref L5]:List V) = [B,E3,F5,J2,K5,L5].map V.ref from rfl,yae,yab hm];rfl⟩)
   (by rintro τ H6 ⟨_,_,sm,_⟩;exact ⟨_,SqL.of (sm _ _ rQ1),yag _⟩) ?_ ?_
  ·rintro m τ _ y H6 hm ⟨v1,rfl,sm,hdd⟩ ⟨rfl,hy⟩
   have ey:=hy _ (SqL.of (sm _ _ rQ1))
   rw [show ([.ref B,.ref E3,.ref F5,.ref J2,.ref K5,.ref L5]:List V) = [B,E3,F5,J2,K5,L5].map V.ref from rfl,yae,yab hm] at ey
   cases ey
   have hm':m < LL.length:=by omega
   have bm:=bLL _ (yam hm')
   have jb:=join_b bm
   refine ⟨rfl,ea rfl ⟨_,_,LL[m],rfl,rfl,SqL.of (sm _ _ (Paired.at pLL m hm hm')),(by rw [zbX];omega),_,ea rfl ⟨rfl,zac (show _≤100000 by rw [sm1];omega),_,hdd,?_,ea rfl ⟨sm.upd hR1,?_⟩⟩⟩⟩
   ·rw [yaa,yaa,yaj]
    exact zai (by omega)
   ·rw [zab,yaB hm',yah,yah]
    rfl
  rintro τ Z0 ⟨v1,rfl,z0,d0⟩
  rw [yaA (by omega)] at d0
  have Sz0:Same H Z0:=S28.trans z0
  have jn:∀ y∈LL.map (fun l=>ybG " | " l ++ ";"),y.length≤9999:=fun y hy=>by
   obtain ⟨l,hl,rfl⟩:=yaG.mp hy
   have:=join_b (bLL l hl)
   rw [zaD,sm1]
   omega
  have jl:(LL.map (fun l=>ybG " | " l ++ ";")).length=6:=by
   rw [yaa,lLL]
  generalize LL.map (fun l=>ybG " | " l ++ ";")=js at d0 jn jl
  have bn:("\n" : Str).length=1:=by decide +kernel
  refine (ea rfl ⟨_,ea rfl ⟨rfl,zac (by rw [sm1];omega),?_⟩⟩)
  refine (ea rfl (ea rfl (ea rfl ⟨x,rfl,zac (by omega),?_⟩)))
  refine (ea rfl ⟨_,ea rfl ⟨rfl,zac (by rw [b1];omega),?_⟩⟩)
  refine (ea rfl ⟨_,ea rfl ⟨rfl,zac (by rw [b1];omega),?_⟩⟩)
  refine (ea rfl ⟨_,ea rfl ⟨rfl,zac (by rw [bn];omega),?_⟩⟩)
  refine ⟨zac (show 6≤100000 by decide),fun R2 hR2 => ?_⟩
  obtain ⟨t6,et6⟩:∃ t6:List Str,t6 = [x ++ ";",ya3 x none (some (-1)),x ++ " ", " " ++ x, "",x ++ "\n"]:=⟨_,rfl⟩
  generalize e1:upd Z0 R2 _=Z1
  have z1:Same Z0 Z1:=e1 ▸ Same.new hR2
  have c1:Z1 R2=some (.lst (t6.map V.str)):=by rw [← e1,et6];exact zab
  clear e1
  have l6:t6.length=6:=by rw [et6];rfl
  have m6:∀ y∈t6,y.length≤9999:=fun y hy=>by
   rw [et6] at hy
   simp only [yaN,ydg,or_false] at hy
   have e0:("" : Str).length=0:=by decide +kernel
   rcases hy with rfl | rfl | rfl | rfl | rfl | rfl
   ·rw [zaD,sm1];omega
   ·omega
   ·rw [zaD,b1];omega
   ·rw [zaD,b1];omega
   ·rw [e0];omega
   ·rw [zaD,bn];omega
  refine ⟨R1,R2,_,ea rfl ⟨rfl,z1 _ _ d0,c1,zac (by simp only [yaa];omega),fun R3 hR3 => ?_⟩⟩
  generalize e2:upd Z1 R3 _=Z2
  have z2:Same Z1 Z2:=e2 ▸ Same.new hR3
  have c2:Z2 R3=some (.lst ((js++t6).map V.str)):=by rw [← e2,yah];exact zab
  clear e2
  try dsimp only [gName]
  generalize hst:List.set _ 10 (some (V.ref R3))=st
  have est:st = [some (.str x),some (.ref da),some (.str o),some (V.ref A),some (V.int (i:Int)),some (V.int (j:Int)),some (V.ref B),some (V.ref Q1),some (V.int pl),some (V.str ⟨#[sg]⟩),some (V.ref R3)]:=by rw [← hst];rfl
  subst est
  clear hst
  have hdl:=slice_le x none (some pl)
  have tl1:=slice_le x (some pl) none
  have tl2:=slice_le x (some (pl+1)) none
  have sg1:(⟨#[sg]⟩:Str).length=1:=rfl
  refine qz10 (sq1 fun Rz11 qz11 => ?_)
  refine (ea rfl (ea rfl (ea rfl (ea rfl ⟨x,rfl,zac (by omega),ea rfl ⟨_,ea rfl ⟨rfl,zac (by rw [sg1];omega),ea rfl (ea rfl (ea rfl ⟨x,rfl,zac (by omega),_,ea rfl ⟨rfl,zac (by rw [zaD,sg1];omega),?_⟩⟩))⟩⟩⟩))))
  refine (ea rfl (ea rfl (ea rfl ⟨x,rfl,zac (by omega),ea rfl (ea rfl ⟨_,ea rfl ⟨rfl,ea rfl ⟨x,rfl,zac (by omega),_,ea rfl ⟨rfl,zac (by omega),?_⟩⟩⟩⟩)⟩)))
  refine (ea rfl (ea rfl (ea rfl ⟨x,rfl,zac (by omega),?_⟩)))
  refine ⟨zac (show 3≤100000 by decide),fun R4 hR4 => ?_⟩
  obtain ⟨t3,et3⟩:∃ t3:List Str,t3 = [ya3 x none (some pl) ++ ⟨#[sg]⟩++ya3 x (some pl) none,ya3 x none (some pl)++ya3 x (some (pl+1)) none,ya3 x none (some pl)]:=⟨_,rfl⟩
  generalize e4:upd Z2 R4 _=Z4
  have z4:Same Z2 Z4:=e4 ▸ Same.new hR4
  have c4:Z4 R4=some (.lst (t3.map V.str)):=by rw [← e4,et3];exact zab
  clear e4
  have l3:t3.length=3:=by rw [et3];rfl
  have m3:∀ y∈t3,y.length≤9999:=fun y hy=>by
   rw [et3] at hy
   simp only [yaN,ydg,or_false] at hy
   rcases hy with rfl | rfl | rfl
   ·rw [zaD,zaD,sg1];omega
   ·rw [zaD];omega
   ·omega
  refine ⟨R3,R4,_,ea rfl ⟨rfl,z4 _ _ c2,c4,zac (by simp only [yaa,yao];omega),fun R5 hR5 => ?_⟩⟩
  have SZ4:Same H Z4:=((Sz0.trans z1).trans z2).trans z4
  have hR50:H R5=none:=SZ4.free hR5
  generalize e5:upd Z4 R5 _=Z5
  have SZ5:Same H Z5:=e5 ▸ SZ4.upd hR50
  have c5:Z5 R5=some (.lst ((js++t6++t3).map V.str)):=by rw [← e5,zab,yah (l₁:=js++t6)]
  clear e5
  try dsimp only [gName]
  generalize hst:List.set _ 10 (some (V.ref R5))=st
  have est:st = [some (.str x),some (.ref da),some (.str o),some (V.ref A),some (V.int (i:Int)),some (V.int (j:Int)),some (V.ref B),some (V.ref Q1),some (V.int pl),some (V.str ⟨#[sg]⟩),some (V.ref R5)]:=by rw [← hst];rfl
  subst est
  clear hst
  refine qz11 (sq1 fun Rz12 qz12 => ?_)
  refine (ea rfl ⟨.inl ⟨rfl,_,SqL.of c5⟩,ea rfl (ea rfl (ea rfl ⟨x,rfl,zac (by omega),ea rfl ⟨_,ea rfl ⟨rfl,zac (by rw [sg1];omega),ea rfl (ea rfl ⟨_,ea rfl ⟨rfl,ea rfl ⟨x,rfl,zac (by omega),_,ea rfl ⟨rfl,zac (by rw [zaD,sg1];omega),R5,_,ea rfl ⟨rfl,c5,zai (by simp only [yaa,yao];omega),?_⟩⟩⟩⟩⟩)⟩⟩⟩))⟩)
  generalize e6:upd Z5 R5 _=Z6
  have SZ6:Same H Z6:=e6 ▸ SZ5.upd hR50
  have c6:Z6 R5=some (.lst ((js++t6++t3 ++ [ya3 x none (some pl) ++ ⟨#[sg]⟩++ya3 x (some (pl+1)) none]).map V.str)):=by
   rw [← e6,zab,yah (l₁:=js++t6++t3)]
   rfl
  clear e6
  obtain ⟨all,eall⟩:∃ l,l=js++t6++t3 ++ [ya3 x none (some pl) ++ ⟨#[sg]⟩++ya3 x (some (pl+1)) none]:=⟨_,rfl⟩
  rw [← eall] at c6
  have lall:all.length=16:=by
   rw [eall]
   simp only [yao,yal,ya5]
   omega
  have mall:∀ y∈all,y.length≤9999:=fun y hy=>by
   rw [eall] at hy
   rcases ybn.mp hy with hy | hy
   ·rcases ybn.mp hy with hy | hy
    ·rcases ybn.mp hy with hy | hy
     ·exact jn y hy
     ·exact m6 y hy
    ·exact m3 y hy
   ·rw [ya4.mp hy,zaD,zaD,sg1]
    omega
  clear eall
  refine qz12 (sq1 fun Rz13 qz13 => ?_)
  refine (ea rfl (ea rfl ⟨zac (by omega),_,ea rfl ⟨rfl,ea rfl (ite2 (fun z40 => ?_) (fun z40 => ?_))⟩⟩))
  ·have z40:(x.length:Int) < 40:=of_decide_eq_true z40
   refine (ea rfl ⟨.inl ⟨rfl,_,SqL.of c6⟩,ea rfl (ea rfl ⟨zac (by omega),ea rfl ⟨by omega,by omega,fun D hD => ?_⟩⟩)⟩)
   refine zaz (J:=Itr 0 x.length) x.length (fun m τ H7=>∃ v1,τ = [v1,some (.str x)]∧Same Z6 H7∧H7 D=some (.lst (((ycz m).map fun (i:Nat)=>ya3 x none (some (0+(i:Int)))).map V.str)))
    ⟨none,rfl,Same.new hD,zab⟩ (fun m τ H7 hm _=>hm) (fun τ H7 _=>yag _) ?_ ?_
   ·rintro m τ _ y H7 hm ⟨v1,rfl,sm,hdd⟩ ⟨rfl,rfl⟩
    refine (ea rfl (ea rfl (ea rfl ⟨x,rfl,zac (by omega),_,hdd,?_,ea rfl ⟨sm.upd hD,?_⟩⟩)))
    ·rw [yaa,yaa,yfW]
     exact zai (by omega)
    ·rw [zab,ye5,yah,yah]
     rfl
   ·rintro τ Z7 ⟨v1,rfl,sm,hdd⟩
    refine ⟨R5,D,_,ea rfl ⟨rfl,sm _ _ c6,hdd,zac (by simp only [yaa,yfW];omega),?_⟩⟩
    refine qz13 ?_
    refine (ea rfl (k R5 (all++(ycz x.length).map fun (i:Nat)=>ya3 x none (some (0+(i:Int)))) _ ((SZ6.trans sm).upd hR50) (by rw [zab,yah]) (fun y hy => ?_) (by rw [yao,yaa,yfW];omega)))
    rcases ybn.mp hy with hy | hy
    ·exact mall y hy
    ·obtain ⟨q,_,rfl⟩:=yaG.mp hy
     have:=slice_le x none (some (0+(q:Int)))
     omega
  ·refine qz13 ?_
   exact (ea rfl (k R5 all Z6 SZ6 c6 mall (by omega)))
end
def GoodRow (cs:List Col) (r:List Key):Prop:=∃ ys:List V,ys.length=cs.length∧(∀ p∈cs.zip ys,isVal p.1.2 p.2=true)∧r=ys.map vKey
theorem GoodRow.kinds {cs:List Col} {r:List Key} (ok:∀ c∈cs,okCol c) (h:GoodRow cs r):zaF (zds cs) r=true:=by
 obtain ⟨ys,a,b,rfl⟩:=h
 exact (zde ok a b).1
def DictR (cs:List Col) (H:Hp) (kvs:List (Key×V)):Prop:=(kvs.map (·.1)).Nodup∧∀ e∈kvs,∃ b r,e.2 = .ref b∧RowAt H b r∧zaO r=e.1∧GoodRow cs r
theorem DictR.keeps {cs:List Col} {H H':Hp} {kvs:List (Key×V)} (h:DictR cs H kvs) (k:∀ b r,RowAt H b r→RowAt H' b r):DictR cs H' kvs :=
 ⟨h.1,fun e he=>let ⟨b,r,e1,e2,e3,e4⟩:=h.2 e he;⟨b,r,e1,k _ _ e2,e3,e4⟩⟩
theorem DictR.put {cs:List Col} {H:Hp} {kvs:List (Key×V)} (h:DictR cs H kvs) {b:Addr} {r:List Key} (hb:RowAt H b r) (g:GoodRow cs r):DictR cs H (putK kvs (zaO r) (.ref b))∧(putK kvs (zaO r) (.ref b)).length≤kvs.length+1:=by
 unfold putK
 split
 ·refine ⟨⟨?_,fun e he => ?_⟩,by rw [yaa];omega⟩
  ·rw [ybb]
   have:((·.1) ∘ fun kv:Key×V=>if kv.1=zaO r then (kv.1,V.ref b) else kv)=fun kv:Key×V=>kv.1:=by
    funext kv
    show (if kv.1=zaO r then (kv.1,V.ref b) else kv).1=kv.1
    split <;> rfl
   rw [this]
   exact h.1
  ·obtain ⟨kv,hkv,rfl⟩:=yaG.mp he
   by_cases e:kv.1=zaO r
   ·rw [if_pos e]
    exact ⟨b,r,rfl,hb,e.symm,g⟩
   ·rw [if_neg e]
    exact h.2 kv hkv
 ·rename_i hn
  refine ⟨⟨?_,fun e he => ?_⟩,by rw [yao];exact yag _⟩
  ·rw [yah]
   refine nodup_snoc.mpr ⟨h.1,fun z=>hn ?_⟩
   obtain ⟨kv,hkv,e⟩:=yaG.mp z
   exact yde.mpr ⟨kv,hkv,decide_eq_true e⟩
  ·rcases ybn.mp he with z | z
   ·exact h.2 e z
   ·rw [ya4.mp z]
    exact ⟨b,r,rfl,hb,rfl,g⟩
theorem ziR {kvs:List (Key×V)} {k:Key} (nd:(kvs.map (·.1)).Nodup) {v:V} (h:(k,v)∈kvs):valV kvs k=some v:=by
 induction kvs with
 | nil=>cases h
 | cons p r ih =>
  rw [yan,yb5] at nd
  rcases yaN.mp h with z | z
  ·rw [← z]
   exact zdK rfl
  ·rw [zdz (fun e=>nd.1 (by rw [e];exact yaG.mpr ⟨_,z,rfl⟩))]
   exact ih nd.2 z
def zdw:Sp:=fun vs H Q _=>∃ (a:Addr) (c m:Int) (qs:List Addr) (cs:List Col),vs = [.ref a,.int c,.int m]∧H a=some (.lst (qs.map V.ref))∧ColsAt H qs cs∧(∀ q∈cs,okCol q)∧1≤cs.length∧cs.length≤4∧0≤m∧m≤63 ∧
 ∀ (D:Addr) (as:List Addr) (rows:List (List Key)) (H':Hp),Same H H'→H D=none→H' D=some (.lst (as.map V.ref))→RowsAt H' as rows→(∀ r∈rows,GoodRow cs r)→zbU rows→rows.length≤63→Q (.ref D) H'
section
variable {P:Program} {w:World} {K:PySem.W.Frag} {mg:Str→Option Value} {base:Heap}
theorem zdJ (T:Txt K mg):FnOk P w K mg base CX0 5 T._law_table_rows.f T._law_table_rows.fd ["_law_columns", "_law_cell_here", "_law_many"] zdw:=by
 have G__law_draws:FnOk P w K mg base CX0 1 T._law_draws.f T._law_draws.fd _ _:=zbY T
 have G__law_row:FnOk P w K mg base CX0 4 T._law_row.f T._law_row.fd _ _:=zev T
 refine T._law_table_rows.fn.ok sc__law_table_rows (fun vs H Q E h => ?_) (fun cdv A outer s H vs Q E hr h => ?_)
 ·obtain ⟨a,c,m,qs,cs,rfl,_⟩:=h
  rfl
 ·obtain ⟨a,c,m,qs,cs,rfl,ha,hc,okc,l1,l4,h0,h63,q⟩:=h
  have hu1:=hu_of hr
  obtain ⟨k,ks,ek⟩:=zcY l1
  refine ⟨_,((zae (zat (i:=3) sc__law_table_rows.nd rfl (Or.inr rfl) ziA)
   (zae (zcZ yb8 rfl (zcI rfl T.b_range (zaa (pv 2) zad)) (zal (i:=4) sc__law_table_rows.nd rfl (yaR rfl)) (zae (zat (i:=5) sc__law_table_rows.nd rfl (yaR rfl) (zam G__law_row (hr.mono (by decide)) rfl (zaa (pv 0) (zaa (zam G__law_draws (hr.mono (by decide)) rfl (zaa (pe_op za6 (pv 1) (pe_op zdP zaf (pv 4))) (zaa zaf zad))) zad))))
   (zah (ps_dput hu1 (pv 3) (pe_ix (zaK (K:=K) rfl) (pv 5) zaf (fun _ _=>rfl)) (pv 5) rfl))))
   (zah (zao (zaR (N := ["_law_key", "_law_found"]) (own:=1) (caps := [3]) rfl (by kernel_rfl) (by kernel_rfl) (zaQ (K:=K) rfl (zak (CallR.or (zf4 rfl) (zgp rfl)) (by rfl) T.b_sorted zen (zaa (pv 3) zad))) (fun _ _ _ _ _=>zal (i:=0) (show List.Nodup (["_law_key", "_law_found"]:List Str) by decide +kernel) rfl (yaR rfl)) (fun _ _ _ _ _=>zaM) (fun _ _ _ _ _=>(pe_dget hu1 (pv 1) (pv 0) (fun _ _=>rfl))))))))),?_⟩
  refine sq1 fun Rz1 qz1 => ?_
  refine fun D hD => ?_
  refine qz1 (sq1 fun Rz2 qz2 => ?_)
  refine ⟨_,rfl,_,rfl,by omega,by omega,zdy (lo:=0) (n:=m.toNat) (fun i σ H2=>∃ (v4 v5:Option V) (kvs:List (Key×V)),σ = [some (.ref a),some (.int c),some (.int m),some (.ref D),v4,v5]∧Same H H2∧H2 D=some (.dK kvs)∧DictR cs H2 kvs∧kvs.length≤i)
   ⟨none,none,[],rfl,Same.new hD,zab,⟨.nil,(fun _ z=>nomatch z)⟩,yag _⟩ ?_ ?_⟩
  ·rintro i σ H2 hi ⟨v4,v5,kvs,rfl,sm,hd,dr,hl⟩
   refine (ea rfl (ea rfl (ea rfl ⟨_,ea rfl ⟨rfl,.inl ⟨by decide,by decide⟩,_,ea rfl ⟨rfl,_,ea rfl ⟨by decide,by decide,fun Dd ds H3 s3 fd hds ld drs => ?_⟩⟩⟩⟩)))
   refine ⟨a,Dd,qs,cs,ds,rfl,s3 _ _ (sm _ _ ha),(hc.same sm).same s3,okc,l4,hds,by omega,drs,fun r ys H4 s4 fr hr4 ly hv => ?_⟩
   have kd:=zde okc ly hv
   have g:GoodRow cs (ys.map vKey):=⟨ys,ly,hv,rfl⟩
   have hr5:RowAt H4 r (ys.map vKey):=by
    show H4 r=some (.tup ((ys.map vKey).map kV))
    rw [kd.2]
    exact hr4
   obtain ⟨_,x,r',ex⟩:=zcn (by rw [← ek];exact kd.1)
   have s34:=s3.trans s4
   have hd4:=s34 _ _ hd
   have dr4:=dr.keeps (H':=H4) fun b r e=>s34 _ _ e
   obtain ⟨p1,p2⟩:=dr4.put hr5 g
   refine (ea rfl (ea rfl (ea rfl (ixTc (SqT.of hr5) (by rw [ex];exact zfU) ⟨D,ea rfl ⟨.inl ⟨kvs,zaO (ys.map vKey),hd4,by rw [ex];rfl,zai (by omega),rfl⟩,?_⟩⟩))))
   refine ⟨_,_,ea rfl ⟨(sm.trans s34).upd hD,zab,p1.keeps fun b r e => ?_,by omega⟩⟩
   show upd H4 D _ b=_
   rw [zar (fun z=>by rw [z] at e;exact absurd (hd4.symm.trans e) (fun y=>nomatch y))]
   exact e
  ·rintro σ H2 ⟨v4,v5,kvs,rfl,sm,hd,dr,hl⟩
   have lk:kvs.length≤63:=by omega
   have kk:∀ x∈kvs.map (·.1),zaF [k] [x]=true:=fun x hx=>by
    obtain ⟨e,he,rfl⟩:=yaG.mp hx
    obtain ⟨b,r,_,_,e3,e4⟩:=dr.2 e he
    rw [← e3]
    exact (zcn (by rw [← ek];exact e4.kinds okc)).1
   cases k with
   | true =>
    obtain ⟨ns,ens⟩:=zej kk
    have ln:ns.length=kvs.length:=by rw [← yaa (f:=fun e:Key×V=>e.1) (as:=kvs),ens,yaa]
    refine qz2 ?_
    refine (ea rfl (.inr ⟨D,kvs,ns,rfl,hd,ens,by omega,fun l ms hl pm so => ?_⟩))
    have s3:Same H2 (upd H2 l (.lst (ms.map V.int))):=Same.new hl
    have hl3:upd H2 l (.lst (ms.map V.int)) l=some (.lst (ms.map V.int)):=zab
    generalize upd H2 l (.lst (ms.map V.int))=H3 at s3 hl3 ⊢
    have hd3:=s3 _ _ hd
    have dr3:=dr.keeps (H':=H3) fun b r e=>s3 _ _ e
    have ndn:ns.Nodup:=by
     have:=dr.1
     rw [ens] at this
     exact (ybv.mp this).imp fun {a b} z y=>z (by rw [y])
    have ndm:ms.Nodup:=pm.nodup_iff.mpr ndn
    have rise:(ms.map (ycU:Int→Key)).Pairwise fun x y=>ltKey x y=true:=by
     exact ybv.mpr ((so.and ndm).imp fun {a b} ⟨x,y⟩=>decide_eq_true (by omega))
    have mem:∀ y∈ms,(ycU y:Key)∈kvs.map (·.1):=fun y hy=>by
     rw [ens]
     exact yaG.mpr ⟨y,pm.mem_iff.mp hy,rfl⟩
    have lm:ms.length=kvs.length:=by rw [pm.length_eq,ln]
    refine ⟨l,rfl,⟨_,SqL.of hl3⟩,fun D2 hD2 => ?_⟩
    refine zaz (J:=Itl K l) ms.length (fun j τ H4=>∃ (v0:Option V) (as:List Addr) (rows:List (List Key)),τ = [v0,some (.ref D)]∧Same H3 H4∧H4 D2=some (.lst (as.map V.ref))∧RowsAt H4 as rows∧rows.map zaO=(ms.take j).map ycU∧∀ r∈rows,GoodRow cs r)
     ⟨none,[],[],rfl,Same.new hD2,zab,.nil,rfl,(fun _ z=>nomatch z)⟩
     (fun j τ H4 hj ⟨_,_,_,_,sm4,_⟩=>⟨_,.int ms[j],SqL.of (sm4 _ _ hl3),by rw [yae,yab hj];rfl⟩)
     (by rintro τ H4 ⟨_,_,_,_,sm4,_⟩;exact ⟨_,SqL.of (sm4 _ _ hl3),by rw [yaa];exact yag _⟩) ?_ ?_
    ·rintro j τ H4 y H5 hj ⟨v0,as,rows,rfl,sm4,hd4,hr4,er,gr⟩ ⟨rfl,hy5⟩
     have e5:=hy5 _ (SqL.of (sm4 _ _ hl3))
     rw [yae,yab hj] at e5
     cases (yas e5)
     obtain ⟨e,he,ee⟩:=yaG.mp (mem _ (yam hj))
     obtain ⟨b,r,q1,q2,q3,q4⟩:=dr3.2 e he
     have vv:=ziR dr.1 he
     rw [ee,q1] at vv
     have la:as.length=rows.length:=yaz hr4
     have lr:rows.length=j:=by
      have:=congrArg ycL er
      rw [yaa,yaa,yaj] at this
      omega
     refine (ea rfl (ea rfl ⟨D,.ref b,rfl,(by rw [← vv];exact DGet.k (k := .inl ms[j]) (sm4 _ _ hd3)),?_⟩))
     refine ⟨_,hd4,by rw [yaa];exact zai (by omega),_,as ++ [b],rows ++ [r],rfl,sm4.upd hD2,by rw [zab,yah];rfl,?_,?_,fun r' hr' => ?_⟩
     ·refine RowsAt.updL (Paired.snoc hr4 (sm4 _ _ q2)) hd4
     ·rw [yah,er,ybc,yab hj,yah]
      show _ ++ [zaO r]=_ ++ [ycU ms[j]]
      rw [q3,ee]
     ·rcases ybn.mp hr' with z | z
      ·exact gr r' z
      ·rw [ya4.mp z]
       exact q4
    ·rintro τ H4 ⟨v0,as,rows,rfl,sm4,hd4,hr4,er,gr⟩
     rw [yaA (yag _)] at er
     have lr:rows.length=ms.length:=by
      have:=congrArg ycL er
      rw [yaa,yaa] at this
      exact this
     refine q D2 as rows H4 ((sm.trans s3).trans sm4) ((sm.trans s3).free hD2) hd4 hr4 gr ?_ (by omega)
     unfold zbU
     rw [er]
     exact rise
   | false =>
    obtain ⟨ns,ens⟩:=zed kk
    have ln:ns.length=kvs.length:=by rw [← yaa (f:=fun e:Key×V=>e.1) (as:=kvs),ens,yaa]
    refine qz2 ?_
    refine (ea rfl (.inl ⟨D,kvs,ns,rfl,hd,ens,by omega,fun l ms hl pm so => ?_⟩))
    have s3:Same H2 (upd H2 l (.lst (ms.map V.str))):=Same.new hl
    have hl3:upd H2 l (.lst (ms.map V.str)) l=some (.lst (ms.map V.str)):=zab
    generalize upd H2 l (.lst (ms.map V.str))=H3 at s3 hl3 ⊢
    have hd3:=s3 _ _ hd
    have dr3:=dr.keeps (H':=H3) fun b r e=>s3 _ _ e
    have ndn:ns.Nodup:=by
     have:=dr.1
     rw [ens] at this
     exact (ybv.mp this).imp fun {a b} z y=>z (by rw [y])
    have ndm:ms.Nodup:=pm.nodup_iff.mpr ndn
    have rise:(ms.map (ycC:Str→Key)).Pairwise fun x y=>ltKey x y=true:=by
     refine ybv.mpr (((zgX ms so).and ndm).imp fun {a b} ⟨x,y⟩=>decide_eq_true ?_)
     rcases List.le_iff_lt_or_eq.mp x with z | z
     ·exact z
     ·exact absurd (zcp z) y
    have mem:∀ y∈ms,(ycC y:Key)∈kvs.map (·.1):=fun y hy=>by
     rw [ens]
     exact yaG.mpr ⟨y,pm.mem_iff.mp hy,rfl⟩
    have lm:ms.length=kvs.length:=by rw [pm.length_eq,ln]
    refine ⟨l,rfl,⟨_,SqL.of hl3⟩,fun D2 hD2 => ?_⟩
    refine zaz (J:=Itl K l) ms.length (fun j τ H4=>∃ (v0:Option V) (as:List Addr) (rows:List (List Key)),τ = [v0,some (.ref D)]∧Same H3 H4∧H4 D2=some (.lst (as.map V.ref))∧RowsAt H4 as rows∧rows.map zaO=(ms.take j).map ycC∧∀ r∈rows,GoodRow cs r)
     ⟨none,[],[],rfl,Same.new hD2,zab,.nil,rfl,(fun _ z=>nomatch z)⟩
     (fun j τ H4 hj ⟨_,_,_,_,sm4,_⟩=>⟨_,.str ms[j],SqL.of (sm4 _ _ hl3),by rw [yae,yab hj];rfl⟩)
     (by rintro τ H4 ⟨_,_,_,_,sm4,_⟩;exact ⟨_,SqL.of (sm4 _ _ hl3),by rw [yaa];exact yag _⟩) ?_ ?_
    ·rintro j τ H4 y H5 hj ⟨v0,as,rows,rfl,sm4,hd4,hr4,er,gr⟩ ⟨rfl,hy5⟩
     have e5:=hy5 _ (SqL.of (sm4 _ _ hl3))
     rw [yae,yab hj] at e5
     cases (yas e5)
     obtain ⟨e,he,ee⟩:=yaG.mp (mem _ (yam hj))
     obtain ⟨b,r,q1,q2,q3,q4⟩:=dr3.2 e he
     have vv:=ziR dr.1 he
     rw [ee,q1] at vv
     have la:as.length=rows.length:=yaz hr4
     have lr:rows.length=j:=by
      have:=congrArg ycL er
      rw [yaa,yaa,yaj] at this
      omega
     refine (ea rfl (ea rfl ⟨D,.ref b,rfl,(by rw [← vv];exact DGet.k (k := .inr ms[j]) (sm4 _ _ hd3)),?_⟩))
     refine ⟨_,hd4,by rw [yaa];exact zai (by omega),_,as ++ [b],rows ++ [r],rfl,sm4.upd hD2,by rw [zab,yah];rfl,?_,?_,fun r' hr' => ?_⟩
     ·refine RowsAt.updL (Paired.snoc hr4 (sm4 _ _ q2)) hd4
     ·rw [yah,er,ybc,yab hj,yah]
      show _ ++ [zaO r]=_ ++ [ycC ms[j]]
      rw [q3,ee]
     ·rcases ybn.mp hr' with z | z
      ·exact gr r' z
      ·rw [ya4.mp z]
       exact q4
    ·rintro τ H4 ⟨v0,as,rows,rfl,sm4,hd4,hr4,er,gr⟩
     rw [yaA (yag _)] at er
     have lr:rows.length=ms.length:=by
      have:=congrArg ycL er
      rw [yaa,yaa] at this
      exact this
     refine q D2 as rows H4 ((sm.trans s3).trans sm4) ((sm.trans s3).free hD2) hd4 hr4 gr ?_ (by omega)
     unfold zbU
     rw [er]
     exact rise
end
def rowT (ks:List Key):Str:=ybG " " (ks.map fun k=>strV (kV k))
def headT (t:Str) (n m:Int):Str:=ybG " " [("page" : Str),t,strV (.int n),strV (.int m)]
def pageT (t:Str) (n m:Int) (rows:List (List Key)):Str:=ybG " | " (headT t n m :: rows.map rowT) ++ ";"
def RowOK (r:List Key):Prop:=1≤r.length∧r.length≤4∧∀ k∈r,∃ kd,isVal kd (kV k)=true
theorem GoodRow.ok {cs:List Col} {r:List Key} (ok:∀ c∈cs,okCol c) (l1:1≤cs.length) (l4:cs.length≤4) (h:GoodRow cs r):RowOK r:=by
 obtain ⟨ys,a,b,rfl⟩:=h
 refine ⟨by rw [yaa];omega,by rw [yaa];omega,fun k hk => ?_⟩
 have e:=(zde ok a b).2
 have:kV k∈ys:=by rw [← e];exact yaG.mpr ⟨k,hk,rfl⟩
 exact zf8 a b _ this
theorem zhZ (z:Str) (l:List Str) (h:l ≠ []):(ybG z l).length+z.length=(l.map (·.length)).sum+l.length*z.length:=by
 have e:=zdb z l
 have j:=jz_len (z:=z.cps.toList) (l.map (·.cps.toList)) (by simpa using h)
 rw [← e,zcT,zcT,ybb,yaa] at j
 have e2:(l.map ((·.length) ∘ fun y:Str=>y.cps.toList)).sum=(l.map (·.length)).sum:=by
  refine congrArg List.sum (ye7 fun y _ => ?_)
  exact zcT y
 rw [e2] at j
 exact j
theorem ziW {b:Nat}:∀ {l:List Str},(∀ x∈l,x.length≤b)→(l.map (·.length)).sum≤l.length*b
 | [],_=>ya2 _
 | x :: l,h=>by
  rw [yan,yb9,yal,Nat.succ_mul]
  have:=ziW fun y hy=>h y (yap _ hy)
  have:=h x yat
  omega
theorem zio {r:List Key} (h:RowOK r):((r.map fun k=>strV (kV k)).map (·.length)).sum≤44∧(rowT r).length≤47:=by
 have s:((r.map fun k=>strV (kV k)).map (·.length)).sum≤r.length*11:=by
  have:=ziW (b:=11) (l:=r.map fun k=>strV (kV k)) fun x hx=>by
   obtain ⟨k,hk,rfl⟩:=yaG.mp hx
   obtain ⟨kd,hv⟩:=h.2.2 k hk
   exact (zf0 hv).2
  rw [yaa] at this
  exact this
 have l4:=h.2.1
 have j:=zhZ " " (r.map fun k=>strV (kV k)) (fun z=>by
  have:=h.1
  rw [← yaa (f:=fun k=>strV (kV k)),z] at this
  exact absurd this (by decide))
 rw [zcU,yaa] at j
 refine ⟨by omega,?_⟩
 show (ybG " " _).length≤47
 omega
theorem zjg {t:Str} {n m:Int} (ht:isNm t=true) (h0:0≤n) (h1:n≤1000000000) (h2:0≤m) (h3:m≤1000000000):(([("page" : Str),t,strV (.int n),strV (.int m)]).map (·.length)).sum≤34∧(headT t n m).length≤37:=by
 have a:=zh1 ht
 have b:=ze9 (i:=n) (by omega) h1
 have c:=ze9 (i:=m) (by omega) h3
 have d:("page" : Str).length=4:=by decide +kernel
 have s:(([("page" : Str),t,strV (.int n),strV (.int m)]).map (·.length)).sum≤34:=by
  simp only [yan,yeu,yb9,List.sum_nil,d]
  omega
 have j:=zhZ " " [("page" : Str),t,strV (.int n),strV (.int m)] (by simp)
 rw [zcU] at j
 simp only [yal,ya5] at j
 refine ⟨s,?_⟩
 show (ybG " " _).length≤37
 omega
theorem zgm {t:Str} {n m:Int} {rows:List (List Key)} (ht:isNm t=true) (h0:0≤n) (h1:n≤1000000000) (h2:0≤m) (h3:m≤1000000000) (hr:∀ r∈rows,RowOK r) (hl:rows.length≤60):((headT t n m :: rows.map rowT).map (·.length)).sum≤2857∧(ybG " | " (headT t n m :: rows.map rowT)).length≤3037∧(pageT t n m rows).length≤3038:=by
 have a:=(zjg ht h0 h1 h2 h3).2
 have b:=ziW (b:=47) (l:=rows.map rowT) fun x hx=>by
  obtain ⟨r,hr',rfl⟩:=yaG.mp hx
  exact (zio (hr r hr')).2
 rw [yaa] at b
 have s:((headT t n m :: rows.map rowT).map (·.length)).sum≤2857:=by
  rw [yan,yb9]
  omega
 have j:=zhZ " | " (headT t n m :: rows.map rowT) (by simp)
 rw [zbX,yal,yaa] at j
 have jl:(ybG " | " (headT t n m :: rows.map rowT)).length≤3037:=by omega
 refine ⟨s,jl,?_⟩
 show (_++_:Str).length≤_
 rw [zaD]
 have:(";" : Str).length=1:=by decide +kernel
 omega
theorem zix {k:Key} (h:∃ kd,isVal kd (kV k)=true):(∃ i:Int,kV k = .int i∧i.natAbs < 1000000000000)∨∃ z,kV k = .str z:=by
 obtain ⟨kd,h⟩:=h
 rcases zcs h with ⟨i,e,a,b⟩ | ⟨x,e,_⟩
 ·exact .inl ⟨i,e,by omega⟩
 ·exact .inr ⟨x,e⟩
def zd4:Sp:=fun vs H Q _=>∃ (t:Str) (n m:Int) (l:Addr) (as:List Addr) (rows:List (List Key)),vs = [.str t,.int n,.int m,.ref l]∧isNm t=true∧0≤n∧n≤1000000000∧0≤m∧m≤1000000000∧H l=some (.lst (as.map V.ref))∧RowsAt H as rows∧(∀ r∈rows,RowOK r)∧rows.length≤60 ∧
 ∀ H',Same H H'→Q (.str (pageT t n m rows)) H'
section
variable {P:Program} {w:World} {K:PySem.W.Frag} {mg:Str→Option Value} {base:Heap}
theorem zhH (T:Txt K mg):FnOk P w K mg base CX0 2 T.page_text.f T.page_text.fd ["table", "last", "many", "rows"] zd4:=by
 have G_value_text:FnOk P w K mg base CX0 1 T.value_text.f T.value_text.fd _ _:=zdA T
 refine T.page_text.fn.ok sc_page_text (fun vs H Q E h => ?_) (fun cdv A outer s H vs Q E hr h => ?_)
 ·obtain ⟨t,n,m,l,as,rows,rfl,_⟩:=h
  rfl
 ·obtain ⟨t,n,m,l,as,rows,rfl,ht,n0,n1,m0,m1,hl,hrows,okr,l60,q⟩:=h
  have la:as.length=rows.length:=yaz hrows
  refine ⟨_,((zae (zat (i:=4) sc_page_text.nd rfl (yaR rfl) (zaS (zaa (zaY (K:=K) rfl yaQ ybV ybW (zcl (K:=K) rfl) zay (zaa (zaS (zaa (zbJ rfl T.c_PAGE_WORD (T.r_PAGE_WORD)) (zaa (pv 0) (zaa (zam G_value_text (hr.mono (by decide)) rfl (zaa (pv 1) zad)) (zaa (zam G_value_text (hr.mono (by decide)) rfl (zaa (pv 2) zad)) zad))))) zad)) zad)))
   (zae (zcZ yb8 rfl (zaQ (K:=K) rfl (pv 3)) (zal (i:=5) sc_page_text.nd rfl (yaR rfl)) (zah (zbp (zaY (K:=K) rfl ya8 ybE ybF zbA (pv 4) (zaa (zaY (K:=K) rfl yaQ ybV ybW (zcl (K:=K) rfl) zay (zaa (zaR (N := ["value"]) (own:=1) (caps := []) rfl (by kernel_rfl) (by kernel_rfl) (zca (K:=K) rfl (pv 5)) (fun _ _ _ _ _=>zal (i:=0) (show List.Nodup (["value"]:List Str) by decide +kernel) rfl (yaR rfl)) (fun _ _ _ _ _=>zaM) (fun _ _ _ _ _=>(zam G_value_text (hr.mono (by decide)) rfl (zaa (pv 0) zad)))) zad)) zad)))))
   (zah (zao (pe_op zaw (zaY (K:=K) rfl yaQ ybV ybW (zcl (K:=K) rfl) (zbJ rfl T.c_BETWEEN_PARTS (T.r_BETWEEN_PARTS)) (zaa (pv 4) zad)) zay)))))),?_⟩
  have hs:=zjg ht n0 n1 m0 m1
  have ps:=zgm ht n0 n1 m0 m1 okr l60
  refine sq1 fun Rz1 qz1 => ?_
  refine ⟨rfl,ea rfl (ea rfl ⟨.int n,rfl,.inl ⟨n,rfl,by omega⟩,ea rfl ⟨.int m,rfl,.inl ⟨m,rfl,by omega⟩,zac (show 4≤100000 by decide),fun B hB => ?_⟩⟩)⟩
  generalize e1:upd H B _=H1
  have s1:Same H H1:=e1 ▸ Same.new hB
  have rB:H1 B=some (.lst ([("page" : Str),t,strV (.int n),strV (.int m)].map V.str)):=by rw [← e1];exact zab
  clear e1
  refine ⟨_,B,[("page" : Str),t,strV (.int n),strV (.int m)],rfl,rfl,SqL.of rB,(by rw [zcU];simp only [yal,ya5];omega),?_⟩
  refine ⟨zac (show 1≤100000 by decide),fun A hA => ?_⟩
  generalize e2:upd H1 A _=H2
  have s2:Same H1 H2:=e2 ▸ Same.new hA
  have a2:H2 A=some (.lst ((headT t n m :: (rows.take 0).map rowT).map V.str)):=by rw [← e2];exact zab
  clear e2
  have S2:=s1.trans s2
  have fA:H A=none:=s1.free hA
  refine qz1 (sq1 fun Rz2 qz2 => ?_)
  refine (ea rfl ⟨l,rfl,⟨_,SqL.of (S2 _ _ hl)⟩,?_⟩)
  refine zeh (K:=K) (a:=l) (xs:=as.map V.ref) (fun i σ H4=>∃ (v5:Option V),σ = [some (.str t),some (.int n),some (.int m),some (.ref l),some (.ref A),v5]∧Same H H4∧H4 A=some (.lst ((headT t n m :: (rows.take i).map rowT).map V.str)))
   ⟨none,rfl,S2,a2⟩ (by rintro i σ H4 _ ⟨_,_,sm,_⟩;exact SqL.of (sm _ _ hl)) ?_ ?_
  ·rintro i y σ H4 hy ⟨v5,rfl,sm,hA4⟩
   have hi:i < as.length:=by
    have:=(List.getElem?_eq_some_iff.1 hy).1
    rwa [yaa] at this
   rw [yae,yab hi] at hy
   cases hy
   have hi2:i < rows.length:=by omega
   have rj:=sm _ _ (Paired.at hrows i hi hi2)
   have okj:=okr _ (yam hi2)
   have rs:=zio okj
   refine (ea rfl ⟨.inl ⟨rfl,_,SqL.of hA4⟩,rfl,ea rfl ⟨as[i],rfl,⟨_,SqT.of rj⟩,fun D hD => ?_⟩⟩)
   refine zaz (J:=Itt K as[i]) rows[i].length (fun j τ H5=>∃ (v0:Option V),τ = [v0]∧Same H4 H5∧H5 D=some (.lst (((rows[i].take j).map fun k=>strV (kV k)).map V.str)))
    ⟨none,rfl,Same.new hD,zab⟩
    (fun j τ H5 hj ⟨_,_,sm5,_⟩=>⟨_,kV rows[i][j],SqT.of (sm5 _ _ rj),by rw [yae,yab hj];rfl⟩)
    (by rintro τ H5 ⟨_,_,sm5,_⟩;exact ⟨_,SqT.of (sm5 _ _ rj),by rw [yaa];exact yag _⟩) ?_ ?_
   ·rintro j τ H5 y H6 hj ⟨v0,rfl,sm5,hd5⟩ ⟨rfl,hy5⟩
    have e5:=hy5 _ (SqT.of (sm5 _ _ rj))
    rw [yae,yab hj] at e5
    cases (yas e5)
    refine (ea rfl ⟨kV rows[i][j],rfl,zix (okj.2.2 _ (yam hj)),?_⟩)
    refine ⟨_,hd5,by rw [yaa,yaa,yaj];have:=okj.2.1;exact zai (by omega),ea rfl ⟨sm5.upd hD,?_⟩⟩
    rw [zab,ybc,yab hj,yah,yah]
    rfl
   ·rintro τ H5 ⟨v0,rfl,sm5,hd5⟩
    rw [yaA (yag _)] at hd5
    refine ⟨_,D,rows[i].map fun k=>strV (kV k),rfl,rfl,SqL.of hd5,(by rw [zcU,yaa];have:=okj.2.1;omega),?_⟩
    have hA5:=sm5 _ _ hA4
    refine ⟨A,_,ea rfl ⟨rfl,hA5,by rw [yaa,yal,yaa,yaj];exact zai (by omega),?_⟩⟩
    refine (ea rfl ⟨(sm.trans sm5).upd fA,?_⟩)
    rw [zab,ybc,yab hi2,yah,yan,yan,yah]
    rfl
  ·rintro σ H4 ⟨v5,rfl,sm,hA4⟩
   rw [yaa,la,yaA (yag _)] at hA4
   refine qz2 ?_
   refine ⟨rfl,ea rfl ⟨_,A,headT t n m :: rows.map rowT,rfl,rfl,SqL.of hA4,(by rw [zbX,yal,yaa];omega),?_⟩⟩
   have s1':(";" : Str).length=1:=by decide +kernel
   exact ⟨_,ea rfl ⟨rfl,zac (show _≤100000 by rw [s1'];omega),q H4 sm⟩⟩
end
theorem zig (i:Int):124∉(strV (.int i)).cps.toList:=by
 rw [zbC]
 have d:=zei i.natAbs
 rw [yaP] at d
 have nd:124∉digs i.natAbs:=fun h=>absurd (d _ h) (by decide)
 unfold zaL
 split
 ·intro h
  rcases yaN.mp h with z | z
  ·exact absurd z (by decide)
  ·exact nd z
 ·exact nd
theorem bar_low {x:Str} (h:x.cps.toList.all isLow=true):124∉x.cps.toList:=fun z=>by
 rw [yaP] at h
 exact absurd (h _ z) (by decide)
theorem bar_val {kd:Str} {v:V} (h:isVal kd v=true):124∉(strV v).cps.toList:=by
 rcases zcs h with ⟨i,rfl,_⟩ | ⟨x,rfl,hx⟩
 ·exact zig i
 ·exact bar_low (ziy hx)
theorem zg8 {l:List Str} (h:∀ x∈l,124∉x.cps.toList):124∉(ybG " " l).cps.toList:=by
 rw [zdb]
 intro z
 rcases mem_jz z with z | ⟨p,hp,z⟩
 ·rw [blank] at z
  exact absurd z (by decide)
 ·obtain ⟨x,hx,rfl⟩:=yaG.mp hp
  exact h x hx z
theorem zjt {t:Str} {n m:Int} (ht:isNm t=true):∀ x ∈ [("page" : Str),t,strV (.int n),strV (.int m)],124∉x.cps.toList∧32∉x.cps.toList:=fun x hx=>by
 simp only [yaN,ydg,or_false] at hx
 rcases hx with rfl | rfl | rfl | rfl
 ·exact ⟨by decide +kernel,by decide +kernel⟩
 ·exact ⟨bar_low (ziy ht),(zjk (ziy ht)).1⟩
 ·exact ⟨zig n,(zfT n).1⟩
 ·exact ⟨zig m,(zfT m).1⟩
theorem row_back {cs:List Col} {r:List Key} (ok:∀ c∈cs,okCol c) (l1:1≤cs.length) (h:GoodRow cs r):rowK cs (rowT r)=some r:=by
 obtain ⟨ys,a,b,rfl⟩:=h
 have e:=(zde ok a b).2
 have em:((ys.map vKey).map fun k=>strV (kV k))=ys.map strV:=by
  have e2:((ys.map vKey).map fun k=>strV (kV k))=((ys.map vKey).map kV).map strV:=by
   rw [ybb (g:=strV) (f:=kV)]
   rfl
  rw [e2,e]
 have sp:yaV (rowT (ys.map vKey)) " " = ys.map strV:=by
  unfold rowT
  rw [em]
  refine zfL (fun z => ?_) fun x hx => ?_
  ·have z:=congrArg ycL z
   rw [yaa,ya5] at z
   omega
  ·obtain ⟨y,hy,rfl⟩:=yaG.mp hx
   obtain ⟨kd,hv⟩:=zf8 a b y hy
   exact (zf0 hv).1.1
 unfold rowK
 rw [sp,valsIn_at ok a b]
 rfl
theorem zg2 {n:Int} (h0:0≤n) (h1:n≤1000000000):nat0 (strV (.int n))=some n:=by
 have e:numIn (strV (.int n)).cps.toList=some n:=by
  rw [zbC]
  exact zeU (by omega) h1
 rw [zcG e,if_pos h0]
theorem page_back {tabs:List Tab} (hok:zcH tabs) {k:Nat} (hk:k < tabs.length) {n m:Int} {rows:List (List Key)} (h0:0≤n) (h1:n≤1000000000) (h2:0≤m) (h3:m≤1000000000) (hg:∀ r∈rows,GoodRow tabs[k].2 r) (hr:zbU rows) (hl:rows.length≤60):zeI tabs (pageT tabs[k].1 n m rows)=some (tabs[k].1,n,m,rows):=by
 have okt:=hok.2.2.1 _ (yam hk)
 have okc:=okt.2.2.2.1
 have codes:(pageT tabs[k].1 n m rows).cps.toList=(ybG " | " (headT tabs[k].1 n m :: rows.map rowT)).cps.toList ++ [59]:=by
  unfold pageT
  rw [zdY,semi]
 have he:ycG (pageT tabs[k].1 n m rows) ";" = true:=(zeA _).mpr ⟨_,codes⟩
 have sl:ya3 (pageT tabs[k].1 n m rows) none (some (-1))=ybG " | " (headT tabs[k].1 n m :: rows.map rowT):=zcp (zjm codes)
 have hw:=zjt (n:=n) (m:=m) okt.1
 have sp:yaV (ybG " | " (headT tabs[k].1 n m :: rows.map rowT)) " | " = headT tabs[k].1 n m :: rows.map rowT:=by
  refine zjV (by simp) fun x hx => ?_
  rcases yaN.mp hx with rfl | hx
  ·exact zg8 fun y hy=>(hw y hy).1
  ·obtain ⟨r,hr',rfl⟩:=yaG.mp hx
   refine zg8 fun y hy => ?_
   obtain ⟨kk,hkk,rfl⟩:=yaG.mp hy
   obtain ⟨kd,hv⟩:=((hg r hr').ok okc okt.2.1 okt.2.2.1).2.2 kk hkk
   exact bar_val hv
 have sh:yaV (headT tabs[k].1 n m) " " = [("page" : Str),tabs[k].1,strV (.int n),strV (.int m)]:=zfL (by simp) fun x hx=>(hw x hx).2
 have eh:zch tabs (yaV (headT tabs[k].1 n m) " ")=some (tabs[k],n,m):=by
  rw [sh,zbk,if_pos rfl,zdt hok.2.2.2 hk,zg2 h0 h1,zg2 h2 h3]
 rw [zgg he,sl,sp,zcw eh,zdq (rows:=rows) (by rw [yaa];exact hl) ?_,if_pos hr]
 ·rfl
 ·rw [ybb]
  exact ye7 fun r hr'=>row_back okc okt.2.1 (hg r hr')
theorem head_eq (t:Str) (n m:Int):(("page " : Str)++t ++ " " ++ strV (.int n) ++ " " ++ strV (.int m):Str)=headT t n m:=by
 refine zcp ?_
 have e:("page " : Str)=("page" : Str) ++ " ":=by decide +kernel
 unfold headT
 rw [zdb,e]
 simp only [zdY]
 show _=("page" : Str).cps.toList++(" " : Str).cps.toList++(t.cps.toList++(" " : Str).cps.toList++((strV (.int n)).cps.toList++(" " : Str).cps.toList++(strV (.int m)).cps.toList))
 simp only [ych]
theorem log_arg {k:Key} (h:∃ kd,isVal kd (kV k)=true):(∃ i:Int,kV k = .int i∧i.natAbs.log2 < 1920)∨∃ z,kV k = .str z:=by
 rcases zix h with ⟨i,e,b⟩ | z
 ·exact .inl ⟨i,e,zcB b⟩
 ·exact .inr z
section
variable {P:Program} {w:World} {K:PySem.W.Frag} {mg:Str→Option Value} {base:Heap}
theorem zdZ (T:Txt K mg):FnOk P w K mg base CX0 1 T._law_page_text.f T._law_page_text.fd ["_law_name", "_law_last", "_law_many", "_law_rows"] zd4:=by
 refine T._law_page_text.fn.ok sc__law_page_text (fun vs H Q E h => ?_) (fun cdv A outer s H vs Q E hr h => ?_)
 ·obtain ⟨t,n,m,l,as,rows,rfl,_⟩:=h
  rfl
 ·obtain ⟨t,n,m,l,as,rows,rfl,ht,n0,n1,m0,m1,hl,hrows,okr,l60,q⟩:=h
  have la:as.length=rows.length:=yaz hrows
  refine ⟨_,((zae (zat (i:=4) sc__law_page_text.nd rfl (yaR rfl) (zaS (zaa (pe_op zaw (pe_op zaw (pe_op zaw (pe_op zaw (pe_op zaw zay (pv 0)) zay) (zav zcj (by rfl) T.b_str zdk (zaa (pv 1) zad))) zay) (zav zcj (by rfl) T.b_str zdk (zaa (pv 2) zad))) zad)))
   (zae (zbp (zaY (K:=K) rfl ya8 ydT ydU ze7 (pv 4) (zaa (zaR (N := ["_law_row_here"]) (own:=1) (caps := []) rfl (by kernel_rfl) (by kernel_rfl) (zaQ (K:=K) rfl (pv 3)) (fun _ _ _ _ _=>zal (i:=0) (show List.Nodup (["_law_row_here"]:List Str) by decide +kernel) rfl (yaR rfl)) (fun _ _ _ _ _=>zaM) (fun _ _ _ _ _=>(zaY (K:=K) rfl yaQ ybV ybW (zcl (K:=K) rfl) zay (zaa (zaR (N := ["_law_value_here"]) (own:=1) (caps := []) rfl (by kernel_rfl) (by kernel_rfl) (zca (K:=K) rfl (pv 0)) (fun _ _ _ _ _=>zal (i:=0) (show List.Nodup (["_law_value_here"]:List Str) by decide +kernel) rfl (yaR rfl)) (fun _ _ _ _ _=>zaM) (fun _ _ _ _ _=>(zav zc3 (by rfl) T.b_str zdk (zaa (pv 0) zad)))) zad)))) zad)))
   (zah (zao (pe_op zaw (zaY (K:=K) rfl yaQ ybV ybW (zcl (K:=K) rfl) zay (zaa (pv 4) zad)) zay)))))),?_⟩
  have ps:=zgm ht n0 n1 m0 m1 okr l60
  have a:=zh1 ht
  have b:=ze9 (i:=n) (by omega) n1
  have c:=ze9 (i:=m) (by omega) m1
  have p5:("page " : Str).length=5:=by decide +kernel
  refine sq1 fun Rz1 qz1 => ?_
  refine (ea rfl ⟨_,ea rfl ⟨rfl,zac (show _≤100000 by rw [p5];omega),_,ea rfl ⟨rfl,zac (show _≤100000 by rw [zaD,p5,zcU];omega),?_⟩⟩⟩)
  refine (ea rfl ⟨n,rfl,zcB (by omega),_,ea rfl ⟨rfl,zac (show _≤100000 by have b':(ycf (toString n)).length≤11:=b;rw [zaD,zaD,p5,zcU];omega),?_⟩⟩)
  refine ⟨_,ea rfl ⟨rfl,zac (show _≤100000 by have b':(ycf (toString n)).length≤11:=b;rw [zaD,zaD,zaD,p5,zcU];omega),?_⟩⟩
  refine (ea rfl ⟨m,rfl,zcB (by omega),_,ea rfl ⟨rfl,zac (show _≤100000 by have b':(ycf (toString n)).length≤11:=b;have c':(ycf (toString m)).length≤11:=c;rw [zaD,zaD,zaD,zaD,p5,zcU];omega),?_⟩⟩)
  refine ⟨zac (show 1≤100000 by decide),fun A hA => ?_⟩
  generalize e2:upd H A _=H2
  have s2:Same H H2:=e2 ▸ Same.new hA
  have a2:H2 A=some (.lst ([headT t n m].map V.str)):=by
   rw [← head_eq,← e2]
   exact zab
  clear e2
  refine qz1 (sq1 fun Rz2 qz2 => ?_)
  refine (ea rfl ⟨.inl ⟨rfl,_,SqL.of a2⟩,ea rfl ⟨l,rfl,⟨_,SqL.of (s2 _ _ hl)⟩,fun D hD => ?_⟩⟩)
  refine zaz (J:=Itl K l) as.length (fun i τ H4=>∃ (v0:Option V),τ = [v0]∧Same H2 H4∧H4 D=some (.lst (((rows.take i).map rowT).map V.str)))
   ⟨none,rfl,Same.new hD,zab⟩
   (fun j τ H4 hj ⟨_,_,sm4,_⟩=>⟨_,.ref as[j],SqL.of (sm4 _ _ (s2 _ _ hl)),by rw [yae,yab hj];rfl⟩)
   (by rintro τ H4 ⟨_,_,sm4,_⟩;exact ⟨_,SqL.of (sm4 _ _ (s2 _ _ hl)),by rw [yaa];exact yag _⟩) ?_ ?_
  ·rintro i τ H4 y H5 hi ⟨v0,rfl,sm4,hd4⟩ ⟨rfl,hy5⟩
   have e5:=hy5 _ (SqL.of (sm4 _ _ (s2 _ _ hl)))
   rw [yae,yab hi] at e5
   cases (yas e5)
   have hi2:i < rows.length:=by omega
   have rj:=sm4 _ _ (s2 _ _ (Paired.at hrows i hi hi2))
   have okj:=okr _ (yam hi2)
   have rs:=zio okj
   refine ⟨rfl,ea rfl ⟨as[i],rfl,⟨_,SqT.of rj⟩,fun D2 hD2 => ?_⟩⟩
   refine zaz (J:=Itt K as[i]) rows[i].length (fun j τ H6=>∃ (v0:Option V),τ = [v0]∧Same H5 H6∧H6 D2=some (.lst (((rows[i].take j).map fun k=>strV (kV k)).map V.str)))
    ⟨none,rfl,Same.new hD2,zab⟩
    (fun j τ H6 hj ⟨_,_,sm5,_⟩=>⟨_,kV rows[i][j],SqT.of (sm5 _ _ rj),by rw [yae,yab hj];rfl⟩)
    (by rintro τ H6 ⟨_,_,sm5,_⟩;exact ⟨_,SqT.of (sm5 _ _ rj),by rw [yaa];exact yag _⟩) ?_ ?_
   ·rintro j τ H6 y H7 hj ⟨v0,rfl,sm5,hd5⟩ ⟨rfl,hy5⟩
    have e5:=hy5 _ (SqT.of (sm5 _ _ rj))
    rw [yae,yab hj] at e5
    cases (yas e5)
    refine (ea rfl ⟨kV rows[i][j],rfl,log_arg (okj.2.2 _ (yam hj)),?_⟩)
    refine ⟨_,hd5,by rw [yaa,yaa,yaj];have:=okj.2.1;exact zai (by omega),ea rfl ⟨sm5.upd hD2,?_⟩⟩
    rw [zab,ybc,yab hj,yah,yah]
    rfl
   ·rintro τ H6 ⟨v0,rfl,sm5,hd5⟩
    rw [yaA (yag _)] at hd5
    refine ⟨_,D2,rows[i].map fun k=>strV (kV k),rfl,rfl,SqL.of hd5,(by rw [zcU,yaa];have:=okj.2.1;omega),?_⟩
    refine ⟨_,sm5 _ _ hd4,by rw [yaa,yaa,yaj];exact zai (by omega),ea rfl ⟨(sm4.trans sm5).upd hD,?_⟩⟩
    rw [zab,ybc,yab hi2,yah,yah]
    rfl
  ·rintro τ H4 ⟨v0,rfl,sm4,hd4⟩
   rw [yaA (by omega)] at hd4
   refine ⟨A,D,_,ea rfl ⟨rfl,sm4 _ _ a2,hd4,zac (by simp only [yaa,yal,ya5];omega),?_⟩⟩
   have s5:Same H (upd H4 A (.lst ([headT t n m].map V.str++(rows.map rowT).map V.str))):=(s2.trans sm4).upd hA
   refine qz2 ?_
   refine ⟨rfl,ea rfl ⟨_,A,headT t n m :: rows.map rowT,rfl,rfl,SqL.of zab,(by rw [zbX,yal,yaa];omega),?_⟩⟩
   have s1':(";" : Str).length=1:=by decide +kernel
   exact ⟨_,ea rfl ⟨rfl,zac (show _≤100000 by rw [s1'];omega),q _ s5⟩⟩
end
def zje (K:PySem.W.Frag):Sp:=fun vs H Q _=>∃ (a:Addr) (ns:List Int),vs = [.ref a]∧SqL K H a (ns.map V.int)∧ns.length≤63∧∀ H',Q (.bl true) H'
theorem cutV_ints {ns:List Int} {lo hi:Option Int}:∃ ms:List Int,cutV (ns.map V.int) lo hi=ms.map V.int∧ms.length≤ns.length:=by
 refine ⟨(ns.drop (HT.sIx ns.length 0 lo)).take (HT.sIx ns.length ns.length hi - HT.sIx ns.length 0 lo),?_,?_⟩
 ·unfold cutV
  rw [yaa,yd8,yd5]
 ·rw [yaj,yaX]
  omega
theorem cut_mid {xs:List V} {a b:Nat} (h:a≤b) (hb:b≤xs.length):cutV xs (some (a:Int)) (some (b:Int))=(xs.drop a).take (b - a):=by
 unfold cutV
 rw [HT.sIx_nat,HT.sIx_nat,Nat.min_eq_left (ya1 h hb),Nat.min_eq_left hb]
theorem zg9 {ds:List Int} {a b:Nat} (h:a≤b) (hb:b≤ds.length):cutV (ds.map V.int) (some (a:Int)) (some (b:Int))=((ds.drop a).take (b - a)).map V.int:=(cut_mid h (by rw [yaa];exact hb)).trans (by rw [yd8,yd5])
theorem TabL.toI {ex:List Addr} {H:Hp} {t:Addr} {d:Tab} (h:TabL ex H t d):TabI H t d:=let ⟨ca,qs,a,b,c,_⟩:=h;⟨ca,qs,a,.inl b,c⟩
theorem at_refs {ts:List Addr} {j:Nat} (hj:j < ts.length):atI (ts.map V.ref) (j:Int)=some (.ref ts[j]):=zcR (by omega) (by show (ts.map V.ref)[j]? = _;rw [yae,yab hj];rfl)
theorem cut_refs (as:List Addr) (rows:List (List Key)) {H:Hp} (h:RowsAt H as rows):cutV (as.map V.ref) none (some 60)=(as.take 60).map V.ref∧RowsAt H (as.take 60) (rows.take 60):=by
 constructor
 ·rcases ybC 60 as.length with z | z
  ·have e:HT.sIx (as.map V.ref).length (as.map V.ref).length (some (60:Int))=60:=by
    rw [yaa]
    unfold HT.sIx
    have c:¬ ((60:Int) < 0):=by decide
    simp [c]
    omega
   have e2:HT.sIx (as.map V.ref).length 0 none=0:=rfl
   unfold cutV
   rw [e,e2,yfw,Nat.sub_zero,yd8]
  ·have e:HT.sIx (as.map V.ref).length (as.map V.ref).length (some (60:Int))=as.length:=by
    rw [yaa]
    unfold HT.sIx
    have c:¬ ((60:Int) < 0):=by decide
    simp [c]
    omega
   have e2:HT.sIx (as.map V.ref).length 0 none=0:=rfl
   unfold cutV
   rw [e,e2,yfw,Nat.sub_zero,yd8,yaA (by rw [yaa];exact yag _),yaA (by rw [yaa];exact z)]
 ·have:∀ (n:Nat) {as:List Addr} {rows:List (List Key)},RowsAt H as rows→RowsAt H (as.take n) (rows.take n):=by
   intro n
   induction n with
   | zero=>intro as rows h;exact .nil
   | succ n ih =>
    intro as rows h
    cases h with
    | nil=>exact .nil
    | cons e t=>exact .cons e (ih t)
  exact this 60 h
section
variable {P:Program} {w:World} {K:PySem.W.Frag} {mg:Str→Option Value} {base:Heap}
abbrev lawI (a t o x:Addr) (H8:Hp) (σ:L2.St) (H9:Hp):Prop:=∃ v4 v5 v6 v7 v8 v9 v10 v11 v12 v13 v14 v15 v16:Option V,σ = [some (V.ref a),some (V.ref t),some (V.ref o),some (V.ref x),v4,v5,v6,v7,v8,v9,v10,v11,v12,v13,v14,v15,v16]∧Same H8 H9
theorem ok_law (T:Txt K mg):FnOk P w K mg base CX0 10 T.law.f T.law.fd ["_law_script"] (zje K):=by
 have G__law_cell:FnOk P w K mg base CX0 1 T._law_cell.f T._law_cell.fd _ _:=zgU T
 have G__law_draws:FnOk P w K mg base CX0 1 T._law_draws.f T._law_draws.fd _ _:=zbY T
 have G__law_schema:FnOk P w K mg base CX0 3 T._law_schema.f T._law_schema.fd _ _:=zfm T
 have G_Schema___init__:FnOk P w K mg base CX0 7 T.Schema___init__.f T.Schema___init__.fd _ _:=zdG T
 have G__law_row:FnOk P w K mg base CX0 4 T._law_row.f T._law_row.fd _ _:=zev T
 have G__law_table_rows:FnOk P w K mg base CX0 5 T._law_table_rows.f T._law_table_rows.fd _ _:=zdJ T
 have G__law_page_text:FnOk P w K mg base CX0 1 T._law_page_text.f T._law_page_text.fd _ _:=zdZ T
 have G_page_text:FnOk P w K mg base CX0 2 T.page_text.f T.page_text.fd _ _:=zhH T
 have G_page_in:FnOk P w K mg base CX0 8 T.page_in.f T.page_in.fd _ _:=zfD T
 have G__law_spoilt:FnOk P w K mg base CX0 1 T._law_spoilt.f T._law_spoilt.fd _ _:=zfp T
 have G__law_good:FnOk P w K mg base CX0 9 T._law_good.f T._law_good.fd _ _:=zhs T
 refine T.law.fn.ok sc_law (fun vs H Q E h => ?_) (fun cdv A outer s H vs Q E hr h => ?_)
 ·obtain ⟨a,ns,rfl,_⟩:=h
  rfl
 ·obtain ⟨a,ns,rfl,hS,hlen,k⟩:=h
  have hu0:=hr.units0
  have hu3:_+2+1 < cLine:=ydi (Nat.add_le_add_left (by decide:2+1≤64) _) hr.units
  have hu4:=hu4_of hr
  refine ⟨_,((zae (ps_asg (zam G__law_schema (hr.mono (by decide)) rfl (zaa (zam G__law_cell (hr.mono (by decide)) rfl (zaa (pv 0) (zaa zaf zad))) zad)) (zbL (K:=K) (n:=2) rfl rfl (zaC ((zal (i:=1) sc_law.nd rfl (yaR rfl))) (zaC ((zal (i:=2) sc_law.nd rfl (yaR rfl))) zbM))))
   (zae (zat (i:=3) sc_law.nd rfl (yaR rfl) (pe_make T.k_Schema G_Schema___init__ (hr.mono (by decide)) rfl T.c_Schema (bi_Schema T) .nil pass0 (zaa (pv 1) (zaa (pv 2) zad))))
   (zae (zcZ yb8 rfl (zaQ (K:=K) rfl (pe_op zcJ (zaS (zaa (zam G__law_cell (hr.mono (by decide)) rfl (zaa (pv 0) (zaa zaf zad))) zad)) (zax (za4 (K:=K) rfl) (pv 0) (zaB zaf) (zaB zaf)))) (zal (i:=4) sc_law.nd rfl (yaR rfl)) (zae (zat (i:=5) sc_law.nd rfl (yaR rfl) (zam G__law_draws (hr.mono (by decide)) rfl (zaa (pv 4) (zaa zaf zad))))
   (zae (ps_asg (pe_ix (zaj (K:=K) rfl) (pv 1) (pe_op zaX (pe_ix (zaj (K:=K) rfl) (pv 5) zaf (fun _ _=>rfl)) (zak (zap (K:=K) rfl) (by rfl) T.b_len za0 (zaa (pv 1) zad))) (fun _ _=>rfl)) (zbL (K:=K) (n:=2) rfl rfl (zaC ((zal (i:=6) sc_law.nd rfl (yaR rfl))) (zaC ((zal (i:=7) sc_law.nd rfl (yaR rfl))) zbM))))
   (zae (zat (i:=8) sc_law.nd rfl (yaR rfl) (pe_ix (zaj (K:=K) rfl) (zaS (zaa (pe_op zaX (pe_ix (zaj (K:=K) rfl) (pv 5) zaf (fun _ _=>rfl)) zaf) (zaa (pe_op zaX (pe_ix (zaj (K:=K) rfl) (pv 5) zaf (fun _ _=>rfl)) zaf) zad))) (zav zdE (by rfl) T.b_int zdO (zaa (zeu op_eq (pe_op zaX (pe_ix (zaj (K:=K) rfl) (pv 5) zaf (fun _ _=>rfl)) zaf) zaf (zaA _)) zad)) (fun _ _=>rfl)))
   (zae (zat (i:=9) sc_law.nd rfl (yaR rfl) (zax (za4 (K:=K) rfl) (zam G__law_table_rows (hr.mono (by decide)) rfl (zaa (pv 7) (zaa (pe_ix (zaj (K:=K) rfl) (pv 5) zaf (fun _ _=>rfl)) (zaa (pv 8) zad)))) zaJ (zaB zaf)))
   (zae (zdo (i:=10) sc_law.nd rfl (yaR rfl) (N := ["_law_draw"]) (own:=1) (caps := []) rfl (by kernel_rfl) (by kernel_rfl) (zaQ (K:=K) rfl (zax (za4 (K:=K) rfl) (pv 5) (zaB zaf) (zaB zaf))) (fun _ _ _ _ _=>zal (i:=0) (show List.Nodup (["_law_draw"]:List Str) by decide +kernel) rfl (yaR rfl)) (fun _ _ _ _ _=>zaM) (fun _ _ _ _ _=>(pe_ix (zaj (K:=K) rfl) (zaS (zaa (pe_op zaX (pv 0) zaf) (zaa (pe_op zaX (pv 0) (pe_op za6 (pe_op zd7 zaf zaf) zaf)) (zaa (pe_op zd7 zaf zaf) zad)))) (pe_op zaX (pe_op zdd (pv 0) zaf) zaf) (fun _ _=>rfl))))
   (zae (zat (i:=11) sc_law.nd rfl (yaR rfl) (zam G__law_page_text (hr.mono (by decide)) rfl (zaa (pv 6) (zaa (pe_ix (zaj (K:=K) rfl) (pv 10) zaf (fun _ _=>rfl)) (zaa (pe_ix (zaj (K:=K) rfl) (pv 10) zaf (fun _ _=>rfl)) (zaa (pv 9) zad))))))
   (zae (zat (i:=12) sc_law.nd rfl (yaR rfl) (zav (zcP (K:=K) rfl) (by rfl) T.b_list ze1 (zaa (pv 9) zad)))
   (zae (ps_if (PW.pt (pw_or (zan op_ne (zam G_page_text (hr.mono (by decide)) rfl (zaa (pv 6) (zaa (pe_ix (zaj (K:=K) rfl) (pv 10) zaf (fun _ _=>rfl)) (zaa (pe_ix (zaj (K:=K) rfl) (pv 10) zaf (fun _ _=>rfl)) (zaa (pv 12) zad))))) (pv 11) (zaA _)) (zbn (zan (zih (K:=K) (n:=2) rfl hu3) (pv 12) (pv 9) (zaA _))))) (zah (zao pe_bl)) zau)
   (zae (ps_if (zan (zih (K:=K) (n:=3) rfl hu4) (zam G_page_in (hr.mono (by decide)) rfl (zaa (pv 3) (zaa (pv 11) zad))) (zce (zaa (pv 6) (zaa (pe_ix (zaj (K:=K) rfl) (pv 10) zaf (fun _ _=>rfl)) (zaa (pe_ix (zaj (K:=K) rfl) (pv 10) zaf (fun _ _=>rfl)) (zaa (pv 9) zad))))) (zaA _)) (zah (zao pe_bl)) zau)
   (zae (zat (i:=13) sc_law.nd rfl (yaR rfl) (pe_ix (zaK (K:=K) rfl) (pe_ix (zaj (K:=K) rfl) (pv 1) (pe_op zaX (pe_ix (zaj (K:=K) rfl) (pv 5) zaf (fun _ _=>rfl)) (zak (zap (K:=K) rfl) (by rfl) T.b_len za0 (zaa (pv 1) zad))) (fun _ _=>rfl)) zaf (fun _ _=>rfl)))
   (zae (zat (i:=14) sc_law.nd rfl (yaR rfl) (zaY (K:=K) rfl yaQ ybV ybW (zcl (K:=K) rfl) zay (zaa (zaR (N := ["_law_value_here"]) (own:=1) (caps := []) rfl (by kernel_rfl) (by kernel_rfl) (zca (K:=K) rfl (zam G__law_row (hr.mono (by decide)) rfl (zaa (pv 13) (zaa (zam G__law_draws (hr.mono (by decide)) rfl (zaa (pe_ix (zaj (K:=K) rfl) (pv 5) zaf (fun _ _=>rfl)) (zaa zaf zad))) zad)))) (fun _ _ _ _ _=>zal (i:=0) (show List.Nodup (["_law_value_here"]:List Str) by decide +kernel) rfl (yaR rfl)) (fun _ _ _ _ _=>zaM) (fun _ _ _ _ _=>(zav zc3 (by rfl) T.b_str zdk (zaa (pv 0) zad)))) zad)))
   (zae (zcZ yb8 rfl (zaQ (K:=K) rfl (pe_op zcJ (zaS (zaa (pv 11) zad)) (zam G__law_spoilt (hr.mono (by decide)) rfl (zaa (pv 11) (zaa (zax (za4 (K:=K) rfl) (pv 5) (zaB zaf) (zaB zaf)) (zaa (pv 14) zad)))))) (zal (i:=15) sc_law.nd rfl (yaR rfl)) (zah (ps_if (zbF (zbz (zam G__law_good (hr.mono (by decide)) rfl (zaa (pv 3) (zaa (pv 1) (zaa (pv 15) zad)))))) (zah (zao pe_bl)) zau)))
   (zah (ps_if (PW.pt (zg1 (zan op_eq (zak (zap (K:=K) rfl) (by rfl) T.b_len za0 (zaa (pv 9) zad)) zaf (zaA _)) (zeo (zbF (zbz (zam G__law_good (hr.mono (by decide)) rfl (zaa (pv 3) (zaa (pv 1) (zaa (pe_op zaw (pe_op zaw (pe_op zaw (zax zcg (pv 11) zaJ (zaB (pe_un zdQ zaf))) zay) (pv 14)) zay) zad))))))))) (zah (zao pe_bl)) zau)))))))))))))))
   (zae (zcZ yb8 rfl (zaQ (K:=K) rfl (zaS (zaa zaZ (zaa zaf (zaa pe_bl (zaa (zaS (zaa zay zad)) (zaa (zce (zaa zay zad)) (zaa ziA zad)))))))) (zal (i:=16) sc_law.nd rfl (yaR rfl)) (zah (ps_if (zc0 (pc_notN (zam G_page_in (hr.mono (by decide)) rfl (zaa (pv 3) (zaa (pv 16) zad))))) (zah (zao pe_bl)) zau)))
   (zah (zao pe_bl))))))),?_⟩
  refine sq1 fun Rz1 qz1 => ?_
  refine (ea rfl ⟨a,ns,ea rfl ⟨hS,by decide,fun c0 => ?_⟩⟩)
  refine ⟨c0,rfl,fun r t o ts qs tabs ords H1 s1 fr ft fo nto r1 t1 o1 hT hO hok hoo => ?_⟩
  refine ⟨r,ea rfl ⟨SqT.of r1,rfl,_,ea rfl ⟨_,ea rfl ⟨rfl,?_⟩⟩⟩⟩
  refine qz1 (sq1 fun Rz2 qz2 => ?_)
  refine (ea rfl (ea rfl ?_))
  refine fun x dx hx hdx hne => ?_
  generalize e4:upd (upd H1 dx _) x _=H4
  have s4:Same H1 H4:=e4 ▸ (Same.new hdx).upd hx
  have x4:H4 x=some (.ins T.C_Schema dx []):=by rw [← e4];exact zab
  clear e4
  refine ⟨x,dx,t,_,ts,tabs,ords,rfl,x4,.inl (s4 _ _ t1),Paired.mapP hT fun _ _ e=>(e.same s4).toI,hok,.inr ⟨o,qs,rfl,.inl (s4 _ _ o1),hO.same s4⟩,hoo,fun H5 hP hk=>⟨rfl,?_⟩⟩
  have s5:Same H1 H5:=fun b u e=>hk b u (s4 _ _ e) (za7 e hx)
  have S5:Same H H5:=s1.trans s5
  have t5:=s5 _ _ t1
  have T5:=TabsL.same hT s5
  have lt:ts.length=tabs.length:=yaz hT
  have tl:=hok.1
  refine qz2 (sq1 fun Rz3 qz3 => ?_)
  refine (ea rfl ⟨a,ns,ea rfl ⟨S5.seq hS,by decide,fun c1 => ?_⟩⟩)
  refine ⟨zac (show 1≤100000 by decide),fun b hb => ?_⟩
  generalize e6:upd H5 b _=H6
  have s6:Same H5 H6:=e6 ▸ Same.new hb
  have b6:H6 b=some (.lst [.int c1]):=by rw [← e6];exact zab
  clear e6
  refine (ea rfl (ea rfl (ea rfl ⟨a,ea rfl ⟨(S5.trans s6).seq hS,fun d hd => ?_⟩⟩)))
  obtain ⟨ms,em,lm⟩:=cutV_ints (ns:=ns) (lo:=some 2) (hi:=some 18)
  rw [em]
  generalize e7:upd H6 d _=H7
  have s7:Same H6 H7:=e7 ▸ Same.new hd
  have d7:H7 d=some (.lst (ms.map V.int)):=by rw [← e7];exact zab
  clear e7
  refine ⟨b,d,_,ea rfl ⟨rfl,s7 _ _ b6,d7,zac (by rw [yaa];simp only [yal,ya5];omega),fun L hL => ?_⟩⟩
  generalize e8:upd H7 L _=H8
  have s8:Same H7 H8:=e8 ▸ Same.new hL
  have l8:H8 L=some (.lst ((c1 :: ms).map V.int)):=by rw [← e8];exact zab
  clear e8
  have S8:Same H5 H8:=(s6.trans s7).trans s8
  have P8:=hP.kept S8
  have t8:=S8 _ _ t5
  have T8:=TabsL.same T5 S8
  refine ⟨L,rfl,⟨_,SqL.of l8⟩,?_⟩
  refine zeh (K:=K) (a:=L) (xs:=(c1 :: ms).map V.int) (fun _=>lawI a t o x H8)
   ⟨none,none,none,none,none,none,none,none,none,none,none,none,none,rfl,Same.refl _⟩ (by rintro i σ H9 _ ⟨_,_,_,_,_,_,_,_,_,_,_,_,_,_,sm⟩;exact SqL.of (sm _ _ l8)) ?_ ?_
  ·rintro i x' σ H9 hx' ⟨v4,v5,v6,v7,v8,v9,v10,v11,v12,v13,v14,v15,v16,rfl,s9⟩
   obtain ⟨cc,_,rfl⟩:=yaG.mp (ycm hx')
   refine sq1 fun Rz4 qz4 => ?_
   refine (ea rfl ⟨cc,ea rfl ⟨by decide,by decide,fun Dd ds H10 s10 fd hds ld drs => ?_⟩⟩)
   have S10:=s9.trans s10
   have ld:ds.length=12:=by omega
   obtain ⟨kt,ekt,hkt⟩:=zjc (x:=ds.getD 0 0) (n:=tabs.length) (by omega)
   have hkt2:kt < ts.length:=by omega
   obtain ⟨ca,cqs,t1',t2',t3',_⟩:=Paired.at (T8.same S10) kt hkt2 hkt
   refine qz4 (sq1 fun Rz5 qz5 => ?_)
   refine (ea rfl (ea rfl (ixLc (SqL.of hds) (at_d (k:=0) (by omega)) (ea rfl ⟨t,ea rfl ⟨.inl (SqL.of (S10 _ _ t8)),_,ea rfl ⟨rfl,(by rw [yaa];omega),ixL (SqL.of (S10 _ _ t8)) (by rw [yaa,lt,ekt];exact at_refs hkt2) ?_⟩⟩⟩))))
   refine ⟨ts[kt],ea rfl ⟨SqT.of t1',rfl,_,ea rfl ⟨_,ea rfl ⟨rfl,?_⟩⟩⟩⟩
   have okt:=hok.2.2.1 _ (yam hkt)
   have d1:=drs.at (j:=1) (by omega)
   have d2:=drs.at (j:=2) (by omega)
   refine qz5 (sq1 fun Rz6 qz6 => ?_)
   refine (ea rfl (ixLc (SqL.of hds) (at_d (k:=1) (by omega)) (opJc (show (0:Int) < 7 by decide) (ea rfl (ixLc (SqL.of hds) (at_d (k:=1) (by omega)) (opJc (show (0:Int) < 64 by decide) ⟨zac (show 2≤100000 by decide),fun B hB => ?_⟩))))))
   generalize e11:upd H10 B _=H11
   have s11:Same H10 H11:=e11 ▸ Same.new hB
   have b11:H11 B=some (.lst [.int (ds.getD 1 0 % 7),.int (ds.getD 1 0 % 64)]):=by rw [← e11];exact zab
   clear e11
   have hds11:=s11 _ _ hds
   obtain ⟨sz,esz,sz0,sz63⟩:∃ sz:Int,atI [V.int (ds.getD 1 0 % 7),.int (ds.getD 1 0 % 64)] (if decide (V.int (ds.getD 2 0 % 8)=V.int 0)=true then 1 else 0)=some (.int sz)∧0≤sz∧sz≤63:=by
    have a7:=md0 (ds.getD 1 0) (m:=7) (by decide)
    have b7:=md1 (ds.getD 1 0) (m:=7) (by decide)
    have a64:=md0 (ds.getD 1 0) (m:=64) (by decide)
    have b64:=md1 (ds.getD 1 0) (m:=64) (by decide)
    by_cases z:decide (V.int (ds.getD 2 0 % 8)=V.int 0)=true
    ·rw [if_pos z]
     exact (ea rfl ⟨a64,by omega⟩)
    ·rw [if_neg z]
     exact (ea rfl ⟨a7,by omega⟩)
   refine (ea rfl (ixLc (SqL.of hds11) (at_d (k:=2) (by omega)) (opJc (show (0:Int) < 8 by decide) ⟨rfl,.inr (ea rfl (ixL (SqL.of b11) esz ?_))⟩)))
   have S11:=S10.trans s11
   have hds12:=hds11
   refine qz6 (sq1 fun Rz7 qz7 => ?_)
   refine (ea rfl (ea rfl (ixLc (SqL.of hds11) (at_d (k:=3) (by omega)) (ea rfl ⟨ca,_,sz,cqs,tabs[kt].2,rfl,s11 _ _ t2',t3'.same s11,okt.2.2.2.1,okt.2.1,okt.2.2.1,sz0,sz63,fun D as rows0 H12 s12 fD hD hrows0 hg0 hri0 l63 => ?_⟩))))
   obtain ⟨ec,hrows1⟩:=cut_refs as rows0 hrows0
   refine (ea rfl ⟨D,ea rfl ⟨SqL.of hD,fun R hR => ?_⟩⟩)
   rw [ec]
   generalize e13:upd H12 R _=H13
   have s13:Same H12 H13:=e13 ▸ Same.new hR
   have r13:H13 R=some (.lst ((as.take 60).map V.ref)):=by rw [← e13];exact zab
   clear e13
   have hrows:=hrows1.same s13
   have hg:∀ r∈rows0.take 60,GoodRow tabs[kt].2 r:=fun r hr'=>hg0 r (yeG hr')
   have hri:zbU (rows0.take 60):=by
    unfold zbU
    rw [yd8]
    exact hri0.sublist (yfB _ _)
   have l60:(rows0.take 60).length≤60:=by rw [yaj];omega
   generalize rows0.take 60=rows at hrows hg hri l60
   generalize as.take 60=as1 at hrows r13
   clear ec hrows1 hg0 hri0 hrows0
   have okr:∀ r∈rows,RowOK r:=fun r hr'=>(hg r hr').ok okt.2.2.2.1 okt.2.1 okt.2.2.1
   have S13:=(S11.trans s12).trans s13
   have hds13:=s13 _ _ (s12 _ _ hds11)
   refine qz7 (sq1 fun Rz8 qz8 => ?_)
   refine (ea rfl (ea rfl (ea rfl ⟨Dd,ea rfl ⟨SqL.of hds13,fun E4 hE4 => ?_⟩⟩)))
   rw [show (4:Int)=((4:Nat):Int) from rfl,show (6:Int)=((6:Nat):Int) from rfl,zg9 (ds:=ds) (a:=4) (b:=6) (by decide) (by omega)]
   have le2:((ds.drop 4).take (6 - 4)).length=2:=by rw [yaj,yaX];omega
   have de2:∀ d∈(ds.drop 4).take (6 - 4),0≤d∧d < 10000000000:=fun d hd=>drs d (yeF (yeG hd))
   generalize (ds.drop 4).take (6 - 4)=es at le2 de2
   generalize e14:upd H13 E4 _=H14
   have s14:Same H13 H14:=e14 ▸ Same.new hE4
   have r14:H14 E4=some (.lst (es.map V.int)):=by rw [← e14];exact zab
   clear e14
   refine ⟨E4,rfl,⟨_,SqL.of r14⟩,fun D4 hD4 => ?_⟩
   refine zaz (J:=Itl K E4) es.length (fun j τ H15=>∃ (v0:Option V) (ms':List Int),τ = [v0]∧Same H14 H15∧H15 D4=some (.lst (ms'.map V.int))∧ms'.length=j∧∀ y∈ms',0≤y∧y≤1000000000)
    ⟨none,[],rfl,Same.new hD4,zab,rfl,(fun _ z=>nomatch z)⟩
    (fun j τ H15 hj ⟨_,_,_,sm,_⟩=>⟨_,.int es[j],SqL.of (sm _ _ r14),by rw [yae,yab hj];rfl⟩)
    (by rintro τ H15 ⟨_,_,_,sm,_⟩;exact ⟨_,SqL.of (sm _ _ r14),by rw [yaa];exact yag _⟩) ?_ ?_
   ·rintro j τ H15 y H16 hj ⟨v0,ms',rfl,sm,hd4,lm',hm'⟩ ⟨rfl,hy5⟩
    have e5:=hy5 _ (SqL.of (sm _ _ r14))
    rw [yae,yab hj] at e5
    cases (yas e5)
    have dj:=de2 _ (yam hj)
    have m10:=md0 es[j] (m:=10) (by decide)
    have m10':=md1 es[j] (m:=10) (by decide)
    have m9:=md0 es[j] (m:=1000000001) (by decide)
    have m9':=md1 es[j] (m:=1000000001) (by decide)
    obtain ⟨v,hat,hv⟩:=three (P:=fun n=>0≤n∧n≤1000000000) (a:=es[j] % 10) (b:=es[j] % (1000000000+1)) (c:=1000000000) (i:=es[j] / 10 % 3) (by omega) (by constructor <;> omega) (by omega) (ya7 _ (by decide)) (yaU _ (by decide))
    refine (ea rfl (opJc (show (0:Int) < 10 by decide) (ea rfl ⟨_,ea rfl ⟨rfl,cpow,_,ea rfl ⟨rfl,opJ (show (0:Int) < 10 ^ (9:Int).toNat+1 by decide) ⟨_,ea rfl ⟨rfl,cpow,zac (show 3≤100000 by decide),fun p hp => ?_⟩⟩⟩⟩⟩)))
    refine (ea rfl ⟨_,ea rfl ⟨rfl,⟨(show (0:Int) < 10 by decide),(show (10:Int) < 2 ^ 64 by decide)⟩,opJc (show (0:Int) < 3 by decide) (ixL (SqL.of zab) hat ?_)⟩⟩)
    have sp:Same H16 (upd H16 p (.lst [.int (es[j] % 10),.int (es[j] % (10 ^ (9:Int).toNat+1)),.int (10 ^ (9:Int).toNat)])):=Same.new hp
    refine ⟨_,sp _ _ hd4,by rw [yaa];exact zai (by omega),_,ms' ++ [v],rfl,(sm.trans sp).upd hD4,by rw [zab,yah];rfl,by simp [lm'],fun y hy => ?_⟩
    rcases ybn.mp hy with z | z
    ·exact hm' y z
    ·rw [ya4.mp z]
     exact hv
   rintro τ H15 ⟨v0,ms',rfl,sm15,hd15,lm',hm'⟩
   obtain ⟨n,m,rfl⟩:∃ n m,ms' = [n,m]:=by
    match ms',lm'.trans le2 with
    | [n,m],_=>exact ⟨n,m,rfl⟩
   have hn:=hm' n (by simp)
   have hm:=hm' m (by simp)
   have s1315:=s14.trans sm15
   have r15:=s1315 _ _ r13
   have hrows15:=hrows.same s1315
   have S15:=S13.trans s1315
   have hds15:=s1315 _ _ hds13
   refine qz8 (sq1 fun Rz9 qz9 => ?_)
   refine (ea rfl (ea rfl (ixLc (SqL.of hd15) rfl (ea rfl (ixLc (SqL.of hd15) rfl (ea rfl ⟨tabs[kt].1,n,m,R,as1,rows,rfl,okt.1,hn.1,hn.2,hm.1,hm.2,r15,hrows15,okr,l60,fun H16 s16 => ?_⟩))))))
   have tx:=(zgm okt.1 hn.1 hn.2 hm.1 hm.2 okr l60).2.2
   have back:=page_back hok hkt hn.1 hn.2 hm.1 hm.2 hg hri l60
   generalize eX:pageT tabs[kt].1 n m rows=X at tx back ⊢
   have r16:=s16 _ _ r15
   refine qz9 (sq1 fun Rz10 qz10 => ?_)
   refine (ea rfl ⟨R,ea rfl ⟨.inl (SqL.of r16),fun Hd hHd => ?_⟩⟩)
   generalize e17:upd H16 Hd _=H17
   have s17:Same H16 H17:=e17 ▸ Same.new hHd
   have h17:H17 Hd=some (.lst (as1.map V.ref)):=by rw [← e17];exact zab
   clear e17
   have s1517:=s16.trans s17
   have hd17:=s1517 _ _ hd15
   have hrows17:=hrows15.same s1517
   refine qz10 (sq1 fun Rz11 qz11 => ?_)
   refine (ea rfl (ea rfl (ixLc (SqL.of hd17) rfl (ea rfl (ixLc (SqL.of hd17) rfl (ea rfl ⟨tabs[kt].1,n,m,Hd,as1,rows,rfl,okt.1,hn.1,hn.2,hm.1,hm.2,h17,hrows17,okr,l60,fun H18 s18 => ?_⟩))))))
   rw [eX]
   refine (ea rfl ⟨rfl,ea rfl (ite2 (fun z=>absurd z (by simp)) (fun _ => ?_))⟩)
   have s1518:=s1517.trans s18
   have r18:=s1518 _ _ r15
   have hrows18:=hrows15.same s1518
   have S18:=S15.trans s1518
   have hd18:=s1518 _ _ hd15
   have hds18:=s1518 _ _ hds15
   refine (ea rfl (ea rfl ⟨⟨_,.inr ⟨⟨Hd,ea rfl ⟨SqL.of (s18 _ _ h17),zgb (n:=0) hrows18⟩⟩,⟨R,ea rfl ⟨SqL.of r18,zgb (n:=0) hrows18⟩⟩⟩⟩,ea rfl (ite2 (fun z=>absurd z (by decide)) (fun _ => ?_))⟩))
   refine qz11 (sq1 fun Rz12 qz12 => ?_)
   refine (ea rfl (ea rfl ⟨x,tabs,ords,ea rfl ⟨P8.kept S18,hok,.inl ⟨X,rfl,by omega,fun r19 H19 s19 h19 => ?_⟩⟩⟩))
   rw [back] at h19
   obtain ⟨pa,pl,pas,rfl,_,_,hpa,hpl,hpr⟩:=h19
   have hd19:=s19 _ _ hd18
   refine (ea rfl (ea rfl (ixLc (SqL.of hd19) rfl (ea rfl (ixLc (SqL.of hd19) rfl (ea rfl ⟨zac (show 4≤100000 by decide),fun U hU => ?_⟩))))))
   have s20:Same H19 (upd H19 U (.tup [.str tabs[kt].1,.int n,.int m,.ref R])):=Same.new hU
   refine ⟨⟨_,.inl ⟨zd3 (s20 _ _ hpa) (s20 _ _ hpl) (hpr.same s20),zd3 zab (s20 _ _ (s19 _ _ r18)) ((hrows18.same s19).same s20)⟩⟩,ea rfl (ite2 (fun z=>absurd z (by decide)) (fun _ => ?_))⟩
   generalize upd H19 U (.tup [.str tabs[kt].1,.int n,.int m,.ref R])=H20 at s20 ⊢
   have s1820:=s19.trans s20
   have S20:=S18.trans s1820
   have hds20:=s1820 _ _ hds18
   have t20:=S20 _ _ t8
   have r20:=s1820 _ _ r18
   have P20:=P8.kept S20
   have T20:=T8.same S20
   obtain ⟨km,ekm,hkm⟩:=zjc (x:=ds.getD 6 0) (n:=tabs.length) (by omega)
   have hkm2:km < ts.length:=by omega
   obtain ⟨cb,cqs2,u1,u2,u3,_⟩:=Paired.at T20 km hkm2 hkm
   refine qz12 (sq1 fun Rz13 qz13 => ?_)
   refine (ea rfl (ea rfl (ixLc (SqL.of hds20) (at_d (k:=6) (by omega)) (ea rfl ⟨t,ea rfl ⟨.inl (SqL.of t20),_,ea rfl ⟨rfl,(by rw [yaa];omega),ixL (SqL.of t20) (by rw [yaa,lt,ekm];exact at_refs hkm2) (ixT (SqT.of u1) rfl ?_)⟩⟩⟩))))
   have okm:=hok.2.2.1 _ (yam hkm)
   refine qz13 (sq1 fun Rz14 qz14 => ?_)
   refine ⟨rfl,ea rfl (ea rfl (ixLc (SqL.of hds20) (at_d (k:=7) (by omega)) ⟨_,ea rfl ⟨by decide,by decide,fun De fs H21 s21 fde hfs lfs dfs => ?_⟩⟩))⟩
   refine ⟨cb,De,cqs2,tabs[km].2,fs,rfl,s21 _ _ u2,u3.same s21,okm.2.2.2.1,okm.2.2.1,hfs,by omega,dfs,fun rr ys H22 s22 frr hrr lys hvs => ?_⟩
   refine ⟨rr,rfl,⟨_,SqT.of hrr⟩,fun D5 hD5 => ?_⟩
   refine zaz (J:=Itt K rr) ys.length (fun j τ H23=>∃ (v0:Option V),τ = [v0]∧Same H22 H23∧H23 D5=some (.lst (((ys.take j).map strV).map V.str)))
    ⟨none,rfl,Same.new hD5,zab⟩
    (fun j τ H23 hj ⟨_,_,sm,_⟩=>⟨_,ys[j],SqT.of (sm _ _ hrr),yab hj⟩)
    (by rintro τ H23 ⟨_,_,sm,_⟩;exact ⟨_,SqT.of (sm _ _ hrr),yag _⟩) ?_ ?_
   ·rintro j τ H23 y H24 hj ⟨v0,rfl,sm,hd5⟩ ⟨rfl,hy5⟩
    have e5:=hy5 _ (SqT.of (sm _ _ hrr))
    rw [yab hj] at e5
    cases (yas e5)
    obtain ⟨kd,hkd⟩:=zf8 lys hvs _ (yam hj)
    refine (ea rfl ⟨ys[j],rfl,?_,?_⟩)
    ·rcases zcs hkd with ⟨i',e,a',b'⟩ | ⟨z,e,_⟩
     ·exact .inl ⟨i',e,zcB (by omega)⟩
     ·exact .inr ⟨z,e⟩
    refine ⟨_,hd5,by rw [yaa,yaa,yaj];have:=okm.2.2.1;exact zai (by omega),ea rfl ⟨sm.upd hD5,?_⟩⟩
    rw [zab,ybc,yab hj,yah,yah]
    rfl
   rintro τ H23 ⟨v0,rfl,sm23,hd23⟩
   rw [yaA (yag _)] at hd23
   have osum:((ys.map strV).map (·.length)).sum≤ys.length*11:=by
    have:=ziW (b:=11) (l:=ys.map strV) fun y hy=>by
     obtain ⟨z,hz,rfl⟩:=yaG.mp hy
     obtain ⟨kd,hkd⟩:=zf8 lys hvs z hz
     exact (zf0 hkd).2
    rw [yaa] at this
    exact this
   have ly4:ys.length≤4:=by have:=okm.2.2.1;omega
   refine ⟨_,D5,ys.map strV,rfl,rfl,SqL.of hd23,(by rw [zcU,yaa];omega),?_⟩
   have olen:(ybG " " (ys.map strV)).length≤60:=by
    rw [tj]
    have:=zij " " (ys.map strV)
    rw [zcU,yaa] at this
    omega
   generalize ybG " " (ys.map strV)=O at olen ⊢
   have s2023:=(s21.trans s22).trans sm23
   have S23:=S20.trans s2023
   have hds23:=s2023 _ _ hds20
   have P23:=P20.kept s2023
   have t23:=s2023 _ _ t20
   have T23:=T20.same s2023
   have r23:=s2023 _ _ r20
   refine qz14 (sq1 fun Rz15 qz15 => ?_)
   refine (ea rfl ⟨zac (show 1≤100000 by decide),fun F hF => ?_⟩)
   generalize e24:upd H23 F _=H24
   have s24:Same H23 H24:=e24 ▸ Same.new hF
   have f24:H24 F=some (.lst ([X].map V.str)):=by rw [← e24];exact zab
   clear e24
   refine (ea rfl (ea rfl (ea rfl (ea rfl ⟨Dd,ea rfl ⟨SqL.of (s24 _ _ hds23),fun G hG => ?_⟩⟩))))
   rw [show (8:Int)=((8:Nat):Int) from rfl,show (12:Int)=((12:Nat):Int) from rfl,zg9 (ds:=ds) (a:=8) (b:=12) (by decide) (by omega)]
   have lg4:((ds.drop 8).take (12 - 8)).length=4:=by rw [yaj,yaX];omega
   have dg4:Draws ((ds.drop 8).take (12 - 8)):=fun d hd=>drs d (yeF (yeG hd))
   generalize (ds.drop 8).take (12 - 8)=gs at lg4 dg4
   generalize e25:upd H24 G _=H25
   have s25:Same H24 H25:=e25 ▸ Same.new hG
   have g25:H25 G=some (.lst (gs.map V.int)):=by rw [← e25];exact zab
   clear e25
   refine (ea rfl ⟨X,O,G,gs,rfl,by omega,olen,g25,lg4,dg4,fun l ys' H26 s26 hl26 hy26 ly26 => ?_⟩)
   refine ⟨F,l,_,ea rfl ⟨rfl,s26 _ _ (s25 _ _ f24),hl26,zac (by simp only [yaa,yal,ya5];omega),fun M hM => ?_⟩⟩
   generalize e27:upd H26 M _=H27
   have s27:Same H26 H27:=e27 ▸ Same.new hM
   have m27:H27 M=some (.lst ((X :: ys').map V.str)):=by rw [← e27];exact zab
   clear e27
   have s2327:=((s24.trans s25).trans s26).trans s27
   have S27:=S23.trans s2327
   have P27:=P23.kept s2327
   have t27:=s2327 _ _ t23
   have T27:=T23.same s2327
   have r27:=s2327 _ _ r23
   refine ⟨M,rfl,⟨_,SqL.of m27⟩,?_⟩
   refine zeh (K:=K) (a:=M) (xs:=(X :: ys').map V.str) (fun i σ H28=>∃ v15 v16,σ = [some (.ref a),some (.ref t),some (.ref o),some (.ref x),some (.int cc),some (.ref Dd),some (.str tabs[kt].1),some (.ref ca),some (.int sz),some (.ref R),some (.ref D4),some (.str X),some (.ref Hd),some (.ref cb),some (.str O),v15,v16]∧Same H27 H28)
    ⟨v15,v16,rfl,Same.refl _⟩ (by rintro i σ H28 _ ⟨_,_,_,sm⟩;exact SqL.of (sm _ _ m27)) ?_ ?_
   ·rintro i y σ H28 hy ⟨v15,v16,rfl,sm⟩
    obtain ⟨z,hz,rfl⟩:=yaG.mp (ycm hy)
    have lz:z.length≤9999:=by
     rcases yaN.mp hz with rfl | hz
     ·omega
     ·exact hy26 z hz
    refine (ea rfl (ea rfl (ea rfl ⟨x,t,z,[t,o],ts,tabs,ords,rfl,P27.kept sm,hok,sm _ _ t27,T27.same sm,lz,fun H29 s29=>(ea rfl (ite2 (fun z=>absurd z (by decide)) (fun _ => ?_)))⟩)))
    exact ⟨_,ea rfl (sm.trans s29)⟩
   ·rintro σ H28 ⟨v15,v16,rfl,sm⟩
    have S28:=S27.trans sm
    refine qz15 ?_
    refine (ea rfl ⟨R,ea rfl ⟨.inl (SqL.of (sm _ _ r27)),rfl,ea rfl (ite2 (fun _ => ?_) (fun _ => ?_))⟩⟩)
    ·have lx:(ya3 X none (some (-1))).length≤X.length:=ycF X none (some (-1))
     have s1':(";" : Str).length=1:=by decide +kernel
     refine (ea rfl (ea rfl (ea rfl (ea rfl (ea rfl ⟨X,rfl,zac (show X.length≤100000 by omega),_,ea rfl ⟨rfl,zac (show _≤100000 by rw [zbX];omega),ea rfl ⟨_,ea rfl ⟨rfl,zac (show _≤100000 by rw [zaD,zbX];omega),_,ea rfl ⟨rfl,zac (show _≤100000 by rw [zaD,zaD,zbX,s1'];omega),?_⟩⟩⟩⟩⟩)))))
     refine ⟨x,t,_,[t,o],ts,tabs,ords,rfl,P27.kept sm,hok,sm _ _ t27,T27.same sm,by rw [zaD,zaD,zaD,zbX,s1'];omega,fun H29 s29=>(ea rfl (ite2 (fun z=>absurd z (by decide)) (fun _ => ?_)))⟩
     exact ⟨_,_,_,_,_,_,_,_,_,_,_,_,ea rfl (S28.trans s29)⟩
    ·exact ⟨_,_,_,_,_,_,_,_,_,_,_,_,ea rfl S28⟩
  ·rintro σ H9 ⟨v4,v5,v6,v7,v8,v9,v10,v11,v12,v13,v14,v15,v16,rfl,s9⟩
   refine qz3 (sq1 fun Rz16 qz16 => ?_)
   refine ⟨zac (show 1≤100000 by decide),fun B1 h1 => ?_⟩
   generalize e1:upd H9 B1 _=G1
   have g1:Same H9 G1:=e1 ▸ Same.new h1
   have q1:G1 B1=some (.lst [.str "page"]):=by rw [← e1];exact zab
   clear e1
   refine ⟨zac (show 1≤100000 by decide),fun B2 h2 => ?_⟩
   generalize e2:upd G1 B2 _=G2
   have g2:Same G1 G2:=e2 ▸ Same.new h2
   have q2:G2 B2=some (.tup [.str "page"]):=by rw [← e2];exact zab
   clear e2
   refine fun B3 h3 => ?_
   generalize e3:upd G2 B3 _=G3
   have g3:Same G2 G3:=e3 ▸ Same.new h3
   have q3:G3 B3=some (.dK []):=by rw [← e3];exact zab
   clear e3
   refine ⟨zac (show 6≤100000 by decide),fun L2 hL2 => ?_⟩
   generalize e4:upd G3 L2 _=G4
   have g4:Same G3 G4:=e4 ▸ Same.new hL2
   have q4:G4 L2=some (.lst [.non,.int 7,.bl true,.ref B1,.ref B2,.ref B3]):=by rw [← e4];exact zab
   clear e4
   have gg:=((s9.trans g1).trans g2).trans (g3.trans g4)
   have PG:=P8.kept gg
   have b1:=g4 _ _ (g3 _ _ (g2 _ _ q1))
   have b2:=g4 _ _ (g3 _ _ q2)
   have b3:=g4 _ _ q3
   refine ⟨L2,rfl,⟨_,SqL.of q4⟩,?_⟩
   refine zeh (K:=K) (a:=L2) (xs := [.non,.int 7,.bl true,.ref B1,.ref B2,.ref B3]) (fun i σ H10=>∃ v16,σ = [some (.ref a),some (.ref t),some (.ref o),some (.ref x),v4,v5,v6,v7,v8,v9,v10,v11,v12,v13,v14,v15,v16]∧Same G4 H10)
    ⟨v16,rfl,Same.refl _⟩ (by rintro i σ H10 _ ⟨_,_,sm⟩;exact SqL.of (sm _ _ q4)) ?_ ?_
   ·rintro i y σ H10 hy ⟨v16,rfl,sm⟩
    have th:Thing K H10 y∧isSt y=false:=by
     have my:=ycm hy
     simp only [yaN,ydg,or_false] at my
     rcases my with rfl | rfl | rfl | rfl | rfl | rfl
     ·exact ⟨⟨⟨_,.non,.inl rfl⟩,fun x e=>nomatch e⟩,rfl⟩
     ·exact ⟨Thing.int 7,rfl⟩
     ·exact ⟨⟨⟨_,.bl true,.inr (.inl rfl)⟩,fun x e=>nomatch e⟩,rfl⟩
     ·exact ⟨⟨⟨_,.lst (sm _ _ b1),by simp⟩,fun x e=>nomatch e⟩,rfl⟩
     ·exact ⟨⟨⟨_,.tup (sm _ _ b2),by simp⟩,fun x e=>nomatch e⟩,rfl⟩
     ·exact ⟨⟨⟨_,.dK (sm _ _ b3),by simp⟩,fun x e=>nomatch e⟩,rfl⟩
    refine (ea rfl (ea rfl ⟨x,tabs,ords,y,rfl,PG.kept sm,hok,.inr ⟨th.1,th.2,fun H11 s11=>(ea rfl (ite2 (fun z=>absurd z (by decide)) (fun _ => ?_)))⟩⟩))
    exact (ea rfl (sm.trans s11))
   ·rintro σ H10 ⟨v16,rfl,sm⟩
    refine qz16 ?_
    exact k H10
end
theorem all_mk {l:PySem.W.OpenLaw} {w:World} {K:PySem.W.Frag} {h:Heap} {mg:Str→Option Value} {fa:Addr} (X:K.In h) (G:h.Ns yar mg) (hfa:mg "law" = some (.ref fa))
  {od0 an0:Option Addr} {sl0:Array (Option Value)} {oc0 kV0 dc0 pm0 cd0 ct0:Value} {f0:Addr}
  {od1 an1:Option Addr} {sl1:Array (Option Value)} {oc1 kV1 dc1 pm1 cd1 ct1:Value} {f1:Addr}
  {od2 an2:Option Addr} {sl2:Array (Option Value)} {oc2 kV2 dc2 pm2 cd2 ct2:Value} {f2:Addr}
  {od3 an3:Option Addr} {sl3:Array (Option Value)} {oc3 kV3 dc3 pm3 cd3 ct3:Value} {f3:Addr}
  {od4 an4:Option Addr} {sl4:Array (Option Value)} {oc4 kV4 dc4 pm4 cd4 ct4:Value} {f4:Addr}
  {od5 an5:Option Addr} {sl5:Array (Option Value)} {oc5 kV5 dc5 pm5 cd5 ct5:Value} {f5:Addr}
  {od6 an6:Option Addr} {sl6:Array (Option Value)} {oc6 kV6 dc6 pm6 cd6 ct6:Value} {f6:Addr}
  {od7 an7:Option Addr} {sl7:Array (Option Value)} {oc7 kV7 dc7 pm7 cd7 ct7:Value} {f7:Addr}
  {od8 an8:Option Addr} {sl8:Array (Option Value)} {oc8 kV8 dc8 pm8 cd8 ct8:Value} {f8:Addr}
  {od9 an9:Option Addr} {sl9:Array (Option Value)} {oc9 kV9 dc9 pm9 cd9 ct9:Value} {f9:Addr}
  {od10 an10:Option Addr} {sl10:Array (Option Value)} {oc10 kV10 dc10 pm10 cd10 ct10:Value} {f10:Addr}
  {od11 an11:Option Addr} {sl11:Array (Option Value)} {oc11 kV11 dc11 pm11 cd11 ct11:Value} {f11:Addr}
  {od12 an12:Option Addr} {sl12:Array (Option Value)} {oc12 kV12 dc12 pm12 cd12 ct12:Value} {f12:Addr}
  {od13 an13:Option Addr} {sl13:Array (Option Value)} {oc13 kV13 dc13 pm13 cd13 ct13:Value} {f13:Addr}
  {od14 an14:Option Addr} {sl14:Array (Option Value)} {oc14 kV14 dc14 pm14 cd14 ct14:Value} {f14:Addr}
  {od15 an15:Option Addr} {sl15:Array (Option Value)} {oc15 kV15 dc15 pm15 cd15 ct15:Value} {f15:Addr}
  {od16 an16:Option Addr} {sl16:Array (Option Value)} {oc16 kV16 dc16 pm16 cd16 ct16:Value} {f16:Addr}
  {od17 an17:Option Addr} {sl17:Array (Option Value)} {oc17 kV17 dc17 pm17 cd17 ct17:Value} {f17:Addr}
  {od18 an18:Option Addr} {sl18:Array (Option Value)} {oc18 kV18 dc18 pm18 cd18 ct18:Value} {f18:Addr}
  {od19 an19:Option Addr} {sl19:Array (Option Value)} {oc19 kV19 dc19 pm19 cd19 ct19:Value} {f19:Addr}
  {od20 an20:Option Addr} {sl20:Array (Option Value)} {oc20 kV20 dc20 pm20 cd20 ct20:Value} {f20:Addr}
  {od21 an21:Option Addr} {sl21:Array (Option Value)} {oc21 kV21 dc21 pm21 cd21 ct21:Value} {f21:Addr}
  {dt22:Addr} {do22:Obj} {dn22:Nat} {od22 an22:Option Addr} {sl22:Array (Option Value)} {oc22 kV22 dc22 pm22 cd22 ct22:Value} {f22:Addr}
  {od23 an23:Option Addr} {sl23:Array (Option Value)} {oc23 kV23 dc23 pm23 cd23 ct23:Value} {f23:Addr}
  {od24 an24:Option Addr} {sl24:Array (Option Value)} {oc24 kV24 dc24 pm24 cd24 ct24:Value} {f24:Addr}
  {od25 an25:Option Addr} {sl25:Array (Option Value)} {oc25 kV25 dc25 pm25 cd25 ct25:Value} {f25:Addr}
  {od26 an26:Option Addr} {sl26:Array (Option Value)} {oc26 kV26 dc26 pm26 cd26 ct26:Value} {f26:Addr}
  {od27 an27:Option Addr} {sl27:Array (Option Value)} {oc27 kV27 dc27 pm27 cd27 ct27:Value} {f27:Addr}
  {od28 an28:Option Addr} {sl28:Array (Option Value)} {oc28 kV28 dc28 pm28 cd28 ct28:Value} {f28:Addr}
  {od29 an29:Option Addr} {sl29:Array (Option Value)} {oc29 kV29 dc29 pm29 cd29 ct29:Value} {f29:Addr}
  {od30 an30:Option Addr} {sl30:Array (Option Value)} {oc30 kV30 dc30 pm30 cd30 ct30:Value} {f30:Addr}
  {od31 an31:Option Addr} {sl31:Array (Option Value)} {oc31 kV31 dc31 pm31 cd31 ct31:Value} {f31:Addr}
  {od32 an32:Option Addr} {sl32:Array (Option Value)} {oc32 kV32 dc32 pm32 cd32 ct32:Value} {f32:Addr}
  {od33 an33:Option Addr} {sl33:Array (Option Value)} {oc33 kV33 dc33 pm33 cd33 ct33:Value} {f33:Addr}
  {od34 an34:Option Addr} {sl34:Array (Option Value)} {oc34 kV34 dc34 pm34 cd34 ct34:Value} {f34:Addr}
  {od35 an35:Option Addr} {sl35:Array (Option Value)} {oc35 kV35 dc35 pm35 cd35 ct35:Value} {f35:Addr}
  {od36 an36:Option Addr} {sl36:Array (Option Value)} {oc36 kV36 dc36 pm36 cd36 ct36:Value} {f36:Addr}
  {od37 an37:Option Addr} {sl37:Array (Option Value)} {oc37 kV37 dc37 pm37 cd37 ct37:Value} {f37:Addr}
  {od38 an38:Option Addr} {sl38:Array (Option Value)} {oc38 kV38 dc38 pm38 cd38 ct38:Value} {f38:Addr}
  {od39 an39:Option Addr} {sl39:Array (Option Value)} {oc39 kV39 dc39 pm39 cd39 ct39:Value} {f39:Addr}
  {C_Schema:Addr}
  {D_KINDS:Addr} {oD_KINDS:Obj} {iD_KINDS:Array Value} {pD_KINDS:Nat}
  {t_BETWEEN_PARTS:Tok}
  {t_FIGURES:Tok}
  {t_GREATEST:Tok}
  {t_LETTERS:Tok}
  {t_LONGEST_NAME:Tok}
  {t_MOST:Tok}
  {t_MOST_FIGURES:Tok}
  {t_MOST_ROWS:Tok}
  {t_PAGE_WORD:Tok}
  (aC_Schema:yav K yar "Schema" = some (some (.ref C_Schema)))
  (pg_Schema:ydK K C_Schema Str.empty=true)
  (hd_Schema:yeb K C_Schema=true)
  (po_Schema:yfA K C_Schema=true)
  (sa_Schema:ybt K (.ref C_Schema) "__setattr__" = some (some (.builtin "object.__setattr__")))
  (mk_Schema:PySem.W.makesIn K C_Schema=true)
  (kc_Schema:yay K (.ref C_Schema)=true)
  (n_Schema_tables:ybt K (.ref C_Schema) "tables" = some none)
  (n_Schema_orders:ybt K (.ref C_Schema) "orders" = some none)
  (n_Schema_columns:ybt K (.ref C_Schema) "columns" = some none)
  (a0:yav K yar "is_whole" = some (some (.ref f0)))
  (l0:K.lookup f0=some ⟨oc0,od0,.func (yaI "is_whole" "is_whole" (zas zb3) (zaq zb3) (zag zb3) .none kV0 dc0 pm0 an0 cd0 ct0),sl0⟩)
  (c0:yaE K cd0 "is_whole" = true)
  (k0:yay K (.ref f0)=true)
  (a1:yav K yar "has_only" = some (some (.ref f1)))
  (l1:K.lookup f1=some ⟨oc1,od1,.func (yaI "has_only" "has_only" (zas zb7) (zaq zb7) (zag zb7) .none kV1 dc1 pm1 an1 cd1 ct1),sl1⟩)
  (c1:yaE K cd1 "has_only" = true)
  (k1:yay K (.ref f1)=true)
  (a2:yav K yar "is_name" = some (some (.ref f2)))
  (l2:K.lookup f2=some ⟨oc2,od2,.func (yaI "is_name" "is_name" (zas zcC) (zaq zcC) (zag zcC) .none kV2 dc2 pm2 an2 cd2 ct2),sl2⟩)
  (c2:yaE K cd2 "is_name" = true)
  (k2:yay K (.ref f2)=true)
  (a3:yav K yar "is_value" = some (some (.ref f3)))
  (l3:K.lookup f3=some ⟨oc3,od3,.func (yaI "is_value" "is_value" (zas zb8) (zaq zb8) (zag zb8) .none kV3 dc3 pm3 an3 cd3 ct3),sl3⟩)
  (c3:yaE K cd3 "is_value" = true)
  (k3:yay K (.ref f3)=true)
  (a4:yav K yar "value_text" = some (some (.ref f4)))
  (l4:K.lookup f4=some ⟨oc4,od4,.func (yaI "value_text" "value_text" (zas zbv) (zaq zbv) (zag zbv) .none kV4 dc4 pm4 an4 cd4 ct4),sl4⟩)
  (c4:yaE K cd4 "value_text" = true)
  (k4:yay K (.ref f4)=true)
  (a5:yav K yar "number_in" = some (some (.ref f5)))
  (l5:K.lookup f5=some ⟨oc5,od5,.func (yaI "number_in" "number_in" (zas zbN) (zaq zbN) (zag zbN) .none kV5 dc5 pm5 an5 cd5 ct5),sl5⟩)
  (c5:yaE K cd5 "number_in" = true)
  (k5:yay K (.ref f5)=true)
  (a6:yav K yar "value_in" = some (some (.ref f6)))
  (l6:K.lookup f6=some ⟨oc6,od6,.func (yaI "value_in" "value_in" (zas zb4) (zaq zb4) (zag zb4) .none kV6 dc6 pm6 an6 cd6 ct6),sl6⟩)
  (c6:yaE K cd6 "value_in" = true)
  (k6:yay K (.ref f6)=true)
  (a7:yav K yar "values_in" = some (some (.ref f7)))
  (l7:K.lookup f7=some ⟨oc7,od7,.func (yaI "values_in" "values_in" (zas zbK) (zaq zbK) (zag zbK) .none kV7 dc7 pm7 an7 cd7 ct7),sl7⟩)
  (c7:yaE K cd7 "values_in" = true)
  (k7:yay K (.ref f7)=true)
  (a8:yav K yar "page_text" = some (some (.ref f8)))
  (l8:K.lookup f8=some ⟨oc8,od8,.func (yaI "page_text" "page_text" (zas zbO) (zaq zbO) (zag zbO) .none kV8 dc8 pm8 an8 cd8 ct8),sl8⟩)
  (c8:yaE K cd8 "page_text" = true)
  (k8:yay K (.ref f8)=true)
  (a9:yav K yar "number_from_nought" = some (some (.ref f9)))
  (l9:K.lookup f9=some ⟨oc9,od9,.func (yaI "number_from_nought" "number_from_nought" (zas zaI) (zaq zaI) (zag zaI) .none kV9 dc9 pm9 an9 cd9 ct9),sl9⟩)
  (c9:yaE K cd9 "number_from_nought" = true)
  (k9:yay K (.ref f9)=true)
  (a10:yav K yar "head_in" = some (some (.ref f10)))
  (l10:K.lookup f10=some ⟨oc10,od10,.func (yaI "head_in" "head_in" (zas zcD) (zaq zcD) (zag zcD) .none kV10 dc10 pm10 an10 cd10 ct10),sl10⟩)
  (c10:yaE K cd10 "head_in" = true)
  (k10:yay K (.ref f10)=true)
  (a11:yav K yar "rows_in" = some (some (.ref f11)))
  (l11:K.lookup f11=some ⟨oc11,od11,.func (yaI "rows_in" "rows_in" (zas zcv) (zaq zcv) (zag zcv) .none kV11 dc11 pm11 an11 cd11 ct11),sl11⟩)
  (c11:yaE K cd11 "rows_in" = true)
  (k11:yay K (.ref f11)=true)
  (a12:yav K yar "page_in" = some (some (.ref f12)))
  (l12:K.lookup f12=some ⟨oc12,od12,.func (yaI "page_in" "page_in" (zas zcu) (zaq zcu) (zag zcu) .none kV12 dc12 pm12 an12 cd12 ct12),sl12⟩)
  (c12:yaE K cd12 "page_in" = true)
  (k12:yay K (.ref f12)=true)
  (a13:yav K yar "few_of" = some (some (.ref f13)))
  (l13:K.lookup f13=some ⟨oc13,od13,.func (yaI "few_of" "few_of" (zas zdf) (zaq zdf) (zag zdf) .none kV13 dc13 pm13 an13 cd13 ct13),sl13⟩)
  (c13:yaE K cd13 "few_of" = true)
  (k13:yay K (.ref f13)=true)
  (a14:yav K yar "pair_of" = some (some (.ref f14)))
  (l14:K.lookup f14=some ⟨oc14,od14,.func (yaI "pair_of" "pair_of" (zas zcx) (zaq zcx) (zag zcx) .none kV14 dc14 pm14 an14 cd14 ct14),sl14⟩)
  (c14:yaE K cd14 "pair_of" = true)
  (k14:yay K (.ref f14)=true)
  (a15:yav K yar "need_name" = some (some (.ref f15)))
  (l15:K.lookup f15=some ⟨oc15,od15,.func (yaI "need_name" "need_name" (zas zbP) (zaq zbP) (zag zbP) .none kV15 dc15 pm15 an15 cd15 ct15),sl15⟩)
  (c15:yaE K cd15 "need_name" = true)
  (k15:yay K (.ref f15)=true)
  (a16:yav K yar "need_unlike" = some (some (.ref f16)))
  (l16:K.lookup f16=some ⟨oc16,od16,.func (yaI "need_unlike" "need_unlike" (zas zbj) (zaq zbj) (zag zbj) .none kV16 dc16 pm16 an16 cd16 ct16),sl16⟩)
  (c16:yaE K cd16 "need_unlike" = true)
  (k16:yay K (.ref f16)=true)
  (a17:yav K yar "column_from" = some (some (.ref f17)))
  (l17:K.lookup f17=some ⟨oc17,od17,.func (yaI "column_from" "column_from" (zas zbb) (zaq zbb) (zag zbb) .none kV17 dc17 pm17 an17 cd17 ct17),sl17⟩)
  (c17:yaE K cd17 "column_from" = true)
  (k17:yay K (.ref f17)=true)
  (a18:yav K yar "table_from" = some (some (.ref f18)))
  (l18:K.lookup f18=some ⟨oc18,od18,.func (yaI "table_from" "table_from" (zas zbt) (zaq zbt) (zag zbt) .none kV18 dc18 pm18 an18 cd18 ct18),sl18⟩)
  (c18:yaE K cd18 "table_from" = true)
  (k18:yay K (.ref f18)=true)
  (a19:yav K yar "tables_from" = some (some (.ref f19)))
  (l19:K.lookup f19=some ⟨oc19,od19,.func (yaI "tables_from" "tables_from" (zas za9) (zaq za9) (zag za9) .none kV19 dc19 pm19 an19 cd19 ct19),sl19⟩)
  (c19:yaE K cd19 "tables_from" = true)
  (k19:yay K (.ref f19)=true)
  (a20:yav K yar "order_from" = some (some (.ref f20)))
  (l20:K.lookup f20=some ⟨oc20,od20,.func (yaI "order_from" "order_from" (zas zbx) (zaq zbx) (zag zbx) .none kV20 dc20 pm20 an20 cd20 ct20),sl20⟩)
  (c20:yaE K cd20 "order_from" = true)
  (k20:yay K (.ref f20)=true)
  (a21:yav K yar "orders_from" = some (some (.ref f21)))
  (l21:K.lookup f21=some ⟨oc21,od21,.func (yaI "orders_from" "orders_from" (zas zbi) (zaq zbi) (zag zbi) .none kV21 dc21 pm21 an21 cd21 ct21),sl21⟩)
  (c21:yaE K cd21 "orders_from" = true)
  (k21:yay K (.ref f21)=true)
  (a22:ybt K (.ref C_Schema) "__init__" = some (some (.ref f22)))
  (i22:yes K (.ref f22)=true)
  (l22:K.lookup f22=some ⟨oc22,od22,.func (yaI "__init__" "Schema.__init__" (zas zaU) (zaq zaU) (zag zaU) (.ref dt22) kV22 dc22 pm22 an22 cd22 ct22),sl22⟩)
  (ld22:K.lookup dt22=some do22)
  (dd22:do22.data = .seq #[.none] dn22)
  (c22:yaE K cd22 "Schema.__init__" = true)
  (k22:yay K (.ref f22)=true)
  (a23:ybt K (.ref C_Schema) "table_names" = some (some (.ref f23)))
  (i23:yes K (.ref f23)=true)
  (l23:K.lookup f23=some ⟨oc23,od23,.func (yaI "table_names" "Schema.table_names" (zas zaH) (zaq zaH) (zag zaH) .none kV23 dc23 pm23 an23 cd23 ct23),sl23⟩)
  (c23:yaE K cd23 "Schema.table_names" = true)
  (k23:yay K (.ref f23)=true)
  (a24:ybt K (.ref C_Schema) "columns_of" = some (some (.ref f24)))
  (i24:yes K (.ref f24)=true)
  (l24:K.lookup f24=some ⟨oc24,od24,.func (yaI "columns_of" "Schema.columns_of" (zas zaN) (zaq zaN) (zag zaN) .none kV24 dc24 pm24 an24 cd24 ct24),sl24⟩)
  (c24:yaE K cd24 "Schema.columns_of" = true)
  (k24:yay K (.ref f24)=true)
  (a25:yav K yar "_law_cell" = some (some (.ref f25)))
  (l25:K.lookup f25=some ⟨oc25,od25,.func (yaI "_law_cell" "_law_cell" (zas zbI) (zaq zbI) (zag zbI) .none kV25 dc25 pm25 an25 cd25 ct25),sl25⟩)
  (c25:yaE K cd25 "_law_cell" = true)
  (k25:yay K (.ref f25)=true)
  (a26:yav K yar "_law_draws" = some (some (.ref f26)))
  (l26:K.lookup f26=some ⟨oc26,od26,.func (yaI "_law_draws" "_law_draws" (zas zbu) (zaq zbu) (zag zbu) .none kV26 dc26 pm26 an26 cd26 ct26),sl26⟩)
  (c26:yaE K cd26 "_law_draws" = true)
  (k26:yay K (.ref f26)=true)
  (a27:yav K yar "_law_names" = some (some (.ref f27)))
  (l27:K.lookup f27=some ⟨oc27,od27,.func (yaI "_law_names" "_law_names" (zas zby) (zaq zby) (zag zby) .none kV27 dc27 pm27 an27 cd27 ct27),sl27⟩)
  (c27:yaE K cd27 "_law_names" = true)
  (k27:yay K (.ref f27)=true)
  (a28:yav K yar "_law_schema" = some (some (.ref f28)))
  (l28:K.lookup f28=some ⟨oc28,od28,.func (yaI "_law_schema" "_law_schema" (zas zbh) (zaq zbh) (zag zbh) .none kV28 dc28 pm28 an28 cd28 ct28),sl28⟩)
  (c28:yaE K cd28 "_law_schema" = true)
  (k28:yay K (.ref f28)=true)
  (a29:yav K yar "_law_value" = some (some (.ref f29)))
  (l29:K.lookup f29=some ⟨oc29,od29,.func (yaI "_law_value" "_law_value" (zas zbs) (zaq zbs) (zag zbs) .none kV29 dc29 pm29 an29 cd29 ct29),sl29⟩)
  (c29:yaE K cd29 "_law_value" = true)
  (k29:yay K (.ref f29)=true)
  (a30:yav K yar "_law_row" = some (some (.ref f30)))
  (l30:K.lookup f30=some ⟨oc30,od30,.func (yaI "_law_row" "_law_row" (zas zb5) (zaq zb5) (zag zb5) .none kV30 dc30 pm30 an30 cd30 ct30),sl30⟩)
  (c30:yaE K cd30 "_law_row" = true)
  (k30:yay K (.ref f30)=true)
  (a31:yav K yar "_law_table_rows" = some (some (.ref f31)))
  (l31:K.lookup f31=some ⟨oc31,od31,.func (yaI "_law_table_rows" "_law_table_rows" (zas zaV) (zaq zaV) (zag zaV) .none kV31 dc31 pm31 an31 cd31 ct31),sl31⟩)
  (c31:yaE K cd31 "_law_table_rows" = true)
  (k31:yay K (.ref f31)=true)
  (a32:yav K yar "_law_page_text" = some (some (.ref f32)))
  (l32:K.lookup f32=some ⟨oc32,od32,.func (yaI "_law_page_text" "_law_page_text" (zas za1) (zaq za1) (zag za1) .none kV32 dc32 pm32 an32 cd32 ct32),sl32⟩)
  (c32:yaE K cd32 "_law_page_text" = true)
  (k32:yay K (.ref f32)=true)
  (a33:yav K yar "_law_number" = some (some (.ref f33)))
  (l33:K.lookup f33=some ⟨oc33,od33,.func (yaI "_law_number" "_law_number" (zas zbc) (zaq zbc) (zag zbc) .none kV33 dc33 pm33 an33 cd33 ct33),sl33⟩)
  (c33:yaE K cd33 "_law_number" = true)
  (k33:yay K (.ref f33)=true)
  (a34:yav K yar "_law_value_in" = some (some (.ref f34)))
  (l34:K.lookup f34=some ⟨oc34,od34,.func (yaI "_law_value_in" "_law_value_in" (zas za2) (zaq za2) (zag za2) .none kV34 dc34 pm34 an34 cd34 ct34),sl34⟩)
  (c34:yaE K cd34 "_law_value_in" = true)
  (k34:yay K (.ref f34)=true)
  (a35:yav K yar "_law_row_in" = some (some (.ref f35)))
  (l35:K.lookup f35=some ⟨oc35,od35,.func (yaI "_law_row_in" "_law_row_in" (zas zbe) (zaq zbe) (zag zbe) .none kV35 dc35 pm35 an35 cd35 ct35),sl35⟩)
  (c35:yaE K cd35 "_law_row_in" = true)
  (k35:yay K (.ref f35)=true)
  (a36:yav K yar "_law_parsed" = some (some (.ref f36)))
  (l36:K.lookup f36=some ⟨oc36,od36,.func (yaI "_law_parsed" "_law_parsed" (zas zbg) (zaq zbg) (zag zbg) .none kV36 dc36 pm36 an36 cd36 ct36),sl36⟩)
  (c36:yaE K cd36 "_law_parsed" = true)
  (k36:yay K (.ref f36)=true)
  (a37:yav K yar "_law_good" = some (some (.ref f37)))
  (l37:K.lookup f37=some ⟨oc37,od37,.func (yaI "_law_good" "_law_good" (zas zbQ) (zaq zbQ) (zag zbQ) .none kV37 dc37 pm37 an37 cd37 ct37),sl37⟩)
  (c37:yaE K cd37 "_law_good" = true)
  (k37:yay K (.ref f37)=true)
  (a38:yav K yar "_law_spoilt" = some (some (.ref f38)))
  (l38:K.lookup f38=some ⟨oc38,od38,.func (yaI "_law_spoilt" "_law_spoilt" (zas zbf) (zaq zbf) (zag zbf) .none kV38 dc38 pm38 an38 cd38 ct38),sl38⟩)
  (c38:yaE K cd38 "_law_spoilt" = true)
  (k38:yay K (.ref f38)=true)
  (a39:yav K yar "law" = some (some (.ref f39)))
  (l39:K.lookup f39=some ⟨oc39,od39,.func (yaI "law" "law" (zas s_law) (zaq s_law) (zag s_law) .none kV39 dc39 pm39 an39 cd39 ct39),sl39⟩)
  (c39:yaE K cd39 "law" = true)
  (k39:yay K (.ref f39)=true)
  (z_abs:yav K yar "abs" = some none)
  (z_all:yav K yar "all" = some none)
  (z_bool:yav K yar "bool" = some none)
  (z_dict:yav K yar "dict" = some none)
  (z_enumerate:yav K yar "enumerate" = some none)
  (z_int:yav K yar "int" = some none)
  (z_isinstance:yav K yar "isinstance" = some none)
  (z_len:yav K yar "len" = some none)
  (z_list:yav K yar "list" = some none)
  (z_range:yav K yar "range" = some none)
  (z_set:yav K yar "set" = some none)
  (z_sorted:yav K yar "sorted" = some none)
  (z_str:yav K yar "str" = some none)
  (z_tuple:yav K yar "tuple" = some none)
  (z_zip:yav K yar "zip" = some none)
  (g_BETWEEN_PARTS:yav K yar "BETWEEN_PARTS" = some (some (.str " | " t_BETWEEN_PARTS)))
  (g_FIGURES:yav K yar "FIGURES" = some (some (.str "0123456789" t_FIGURES)))
  (g_GREATEST:yav K yar "GREATEST" = some (some (.int 1000000000 t_GREATEST)))
  (g_LETTERS:yav K yar "LETTERS" = some (some (.str "abcdefghijklmnopqrstuvwxyz" t_LETTERS)))
  (g_LONGEST_NAME:yav K yar "LONGEST_NAME" = some (some (.int 8 t_LONGEST_NAME)))
  (g_MOST:yav K yar "MOST" = some (some (.int 4 t_MOST)))
  (g_MOST_FIGURES:yav K yar "MOST_FIGURES" = some (some (.int 10 t_MOST_FIGURES)))
  (g_MOST_ROWS:yav K yar "MOST_ROWS" = some (some (.int 60 t_MOST_ROWS)))
  (g_PAGE_WORD:yav K yar "PAGE_WORD" = some (some (.str "page" t_PAGE_WORD)))
  (nT_KINDS:yav K yar "KINDS" = some (some (.ref D_KINDS)))
  (lT_KINDS:K.lookup D_KINDS=some oD_KINDS)
  (xT_KINDS:oD_KINDS.cls = .type "tuple")
  (tT_KINDS:oD_KINDS.data = .seq iD_KINDS pD_KINDS)
  (zT_KINDS:iD_KINDS.size≤100000)
  (kT_KINDS:Vals [.str "number",.str "word"] iD_KINDS.toList) :
  ∃ fd:FuncData,(∀ (s:Shared) (v:Value),BindsTo s fd ⟨[v],[]⟩ [("_law_script",v)])∧∀ base:Heap,K.In base→base.Ns yar mg→FnOk l.prog w K mg base CX0 10 fa fd ["_law_script"] (zje K):=by
 have e:=hfa.symm.trans (yaC X G a39)
 cases e
 have F0:=zaG (st:=zb3) l0 c0 k0
 have b0:=F0.binds (ps := ["thing"]) fun _ _ _ _ _ _ us hl=>match us,hl with | [_],_=>rfl
 have F1:=zaG (st:=zb7) l1 c1 k1
 have b1:=F1.binds (ps := ["signs", "text"]) fun _ _ _ _ _ _ us hl=>match us,hl with | [_,_],_=>rfl
 have F2:=zaG (st:=zcC) l2 c2 k2
 have b2:=F2.binds (ps := ["thing"]) fun _ _ _ _ _ _ us hl=>match us,hl with | [_],_=>rfl
 have F3:=zaG (st:=zb8) l3 c3 k3
 have b3:=F3.binds (ps := ["kind", "thing"]) fun _ _ _ _ _ _ us hl=>match us,hl with | [_,_],_=>rfl
 have F4:=zaG (st:=zbv) l4 c4 k4
 have b4:=F4.binds (ps := ["value"]) fun _ _ _ _ _ _ us hl=>match us,hl with | [_],_=>rfl
 have F5:=zaG (st:=zbN) l5 c5 k5
 have b5:=F5.binds (ps := ["text"]) fun _ _ _ _ _ _ us hl=>match us,hl with | [_],_=>rfl
 have F6:=zaG (st:=zb4) l6 c6 k6
 have b6:=F6.binds (ps := ["kind", "text"]) fun _ _ _ _ _ _ us hl=>match us,hl with | [_,_],_=>rfl
 have F7:=zaG (st:=zbK) l7 c7 k7
 have b7:=F7.binds (ps := ["columns", "words"]) fun _ _ _ _ _ _ us hl=>match us,hl with | [_,_],_=>rfl
 have F8:=zaG (st:=zbO) l8 c8 k8
 have b8:=F8.binds (ps := ["table", "last", "many", "rows"]) fun _ _ _ _ _ _ us hl=>match us,hl with | [_,_,_,_],_=>rfl
 have F9:=zaG (st:=zaI) l9 c9 k9
 have b9:=F9.binds (ps := ["text"]) fun _ _ _ _ _ _ us hl=>match us,hl with | [_],_=>rfl
 have F10:=zaG (st:=zcD) l10 c10 k10
 have b10:=F10.binds (ps := ["schema", "words"]) fun _ _ _ _ _ _ us hl=>match us,hl with | [_,_],_=>rfl
 have F11:=zaG (st:=zcv) l11 c11 k11
 have b11:=F11.binds (ps := ["columns", "parts"]) fun _ _ _ _ _ _ us hl=>match us,hl with | [_,_],_=>rfl
 have F12:=zaG (st:=zcu) l12 c12 k12
 have b12:=F12.binds (ps := ["schema", "text"]) fun _ _ _ _ _ _ us hl=>match us,hl with | [_,_],_=>rfl
 have F13:=zaG (st:=zdf) l13 c13 k13
 have b13:=F13.binds (ps := ["thing", "least"]) fun _ _ _ _ _ _ us hl=>match us,hl with | [_,_],_=>rfl
 have F14:=zaG (st:=zcx) l14 c14 k14
 have b14:=F14.binds (ps := ["thing"]) fun _ _ _ _ _ _ us hl=>match us,hl with | [_],_=>rfl
 have F15:=zaG (st:=zbP) l15 c15 k15
 have b15:=F15.binds (ps := ["thing"]) fun _ _ _ _ _ _ us hl=>match us,hl with | [_],_=>rfl
 have F16:=zaG (st:=zbj) l16 c16 k16
 have b16:=F16.binds (ps := ["things"]) fun _ _ _ _ _ _ us hl=>match us,hl with | [_],_=>rfl
 have F17:=zaG (st:=zbb) l17 c17 k17
 have b17:=F17.binds (ps := ["thing"]) fun _ _ _ _ _ _ us hl=>match us,hl with | [_],_=>rfl
 have F18:=zaG (st:=zbt) l18 c18 k18
 have b18:=F18.binds (ps := ["thing"]) fun _ _ _ _ _ _ us hl=>match us,hl with | [_],_=>rfl
 have F19:=zaG (st:=za9) l19 c19 k19
 have b19:=F19.binds (ps := ["thing"]) fun _ _ _ _ _ _ us hl=>match us,hl with | [_],_=>rfl
 have F20:=zaG (st:=zbx) l20 c20 k20
 have b20:=F20.binds (ps := ["tables", "thing"]) fun _ _ _ _ _ _ us hl=>match us,hl with | [_,_],_=>rfl
 have F21:=zaG (st:=zbi) l21 c21 k21
 have b21:=F21.binds (ps := ["tables", "thing"]) fun _ _ _ _ _ _ us hl=>match us,hl with | [_,_],_=>rfl
 have F22:FunD K "__init__" "Schema.__init__" zaU f22 (.ref dt22) _:=⟨⟨_,_,_,_,_,_,_,_,_,rfl,l22,c22⟩,k22⟩
 have F23:=zaG (st:=zaH) l23 c23 k23
 have b23:=F23.binds (ps := ["self"]) fun _ _ _ _ _ _ us hl=>match us,hl with | [_],_=>rfl
 have F24:=zaG (st:=zaN) l24 c24 k24
 have b24:=F24.binds (ps := ["self", "table"]) fun _ _ _ _ _ _ us hl=>match us,hl with | [_,_],_=>rfl
 have F25:=zaG (st:=zbI) l25 c25 k25
 have b25:=F25.binds (ps := ["_law_script", "_law_k"]) fun _ _ _ _ _ _ us hl=>match us,hl with | [_,_],_=>rfl
 have F26:=zaG (st:=zbu) l26 c26 k26
 have b26:=F26.binds (ps := ["_law_cell_here", "_law_many"]) fun _ _ _ _ _ _ us hl=>match us,hl with | [_,_],_=>rfl
 have F27:=zaG (st:=zby) l27 c27 k27
 have b27:=F27.binds (ps := ["_law_cell_here", "_law_many"]) fun _ _ _ _ _ _ us hl=>match us,hl with | [_,_],_=>rfl
 have F28:=zaG (st:=zbh) l28 c28 k28
 have b28:=F28.binds (ps := ["_law_cell_here"]) fun _ _ _ _ _ _ us hl=>match us,hl with | [_],_=>rfl
 have F29:=zaG (st:=zbs) l29 c29 k29
 have b29:=F29.binds (ps := ["_law_kind", "_law_draw"]) fun _ _ _ _ _ _ us hl=>match us,hl with | [_,_],_=>rfl
 have F30:=zaG (st:=zb5) l30 c30 k30
 have b30:=F30.binds (ps := ["_law_columns", "_law_draws_here"]) fun _ _ _ _ _ _ us hl=>match us,hl with | [_,_],_=>rfl
 have F31:=zaG (st:=zaV) l31 c31 k31
 have b31:=F31.binds (ps := ["_law_columns", "_law_cell_here", "_law_many"]) fun _ _ _ _ _ _ us hl=>match us,hl with | [_,_,_],_=>rfl
 have F32:=zaG (st:=za1) l32 c32 k32
 have b32:=F32.binds (ps := ["_law_name", "_law_last", "_law_many", "_law_rows"]) fun _ _ _ _ _ _ us hl=>match us,hl with | [_,_,_,_],_=>rfl
 have F33:=zaG (st:=zbc) l33 c33 k33
 have b33:=F33.binds (ps := ["_law_word"]) fun _ _ _ _ _ _ us hl=>match us,hl with | [_],_=>rfl
 have F34:=zaG (st:=za2) l34 c34 k34
 have b34:=F34.binds (ps := ["_law_kind", "_law_word"]) fun _ _ _ _ _ _ us hl=>match us,hl with | [_,_],_=>rfl
 have F35:=zaG (st:=zbe) l35 c35 k35
 have b35:=F35.binds (ps := ["_law_columns", "_law_part"]) fun _ _ _ _ _ _ us hl=>match us,hl with | [_,_],_=>rfl
 have F36:=zaG (st:=zbg) l36 c36 k36
 have b36:=F36.binds (ps := ["_law_tables", "_law_text"]) fun _ _ _ _ _ _ us hl=>match us,hl with | [_,_],_=>rfl
 have F37:=zaG (st:=zbQ) l37 c37 k37
 have b37:=F37.binds (ps := ["_law_schema_here", "_law_tables", "_law_text"]) fun _ _ _ _ _ _ us hl=>match us,hl with | [_,_,_],_=>rfl
 have F38:=zaG (st:=zbf) l38 c38 k38
 have b38:=F38.binds (ps := ["_law_text", "_law_draws_here", "_law_other"]) fun _ _ _ _ _ _ us hl=>match us,hl with | [_,_,_],_=>rfl
 have F39:=zaG (st:=s_law) l39 c39 k39
 have b39:=F39.binds (ps := ["_law_script"]) fun _ _ _ _ _ _ us hl=>match us,hl with | [_],_=>rfl
 let T:Txt K mg:={ C_Schema:=C_Schema,c_Schema:=yaC X G aC_Schema,l_Schema:=⟨pg_Schema,hd_Schema,po_Schema,sa_Schema⟩,n_Schema_tables:=n_Schema_tables,n_Schema_orders:=n_Schema_orders,n_Schema_columns:=n_Schema_columns,k_Schema:=⟨mk_Schema,a22,i22,kc_Schema⟩,D_KINDS:=D_KINDS,c_KINDS:=yaC X G nT_KINDS,t_KINDS:=⟨oD_KINDS,iD_KINDS,pD_KINDS,lT_KINDS,xT_KINDS,tT_KINDS,zac zT_KINDS,kT_KINDS⟩,is_whole:=⟨_,_,F0,b0,yaC X G a0⟩,has_only:=⟨_,_,F1,b1,yaC X G a1⟩,is_name:=⟨_,_,F2,b2,yaC X G a2⟩,is_value:=⟨_,_,F3,b3,yaC X G a3⟩,value_text:=⟨_,_,F4,b4,yaC X G a4⟩,number_in:=⟨_,_,F5,b5,yaC X G a5⟩,value_in:=⟨_,_,F6,b6,yaC X G a6⟩,values_in:=⟨_,_,F7,b7,yaC X G a7⟩,page_text:=⟨_,_,F8,b8,yaC X G a8⟩,number_from_nought:=⟨_,_,F9,b9,yaC X G a9⟩,head_in:=⟨_,_,F10,b10,yaC X G a10⟩,rows_in:=⟨_,_,F11,b11,yaC X G a11⟩,page_in:=⟨_,_,F12,b12,yaC X G a12⟩,few_of:=⟨_,_,F13,b13,yaC X G a13⟩,pair_of:=⟨_,_,F14,b14,yaC X G a14⟩,need_name:=⟨_,_,F15,b15,yaC X G a15⟩,need_unlike:=⟨_,_,F16,b16,yaC X G a16⟩,column_from:=⟨_,_,F17,b17,yaC X G a17⟩,table_from:=⟨_,_,F18,b18,yaC X G a18⟩,tables_from:=⟨_,_,F19,b19,yaC X G a19⟩,order_from:=⟨_,_,F20,b20,yaC X G a20⟩,orders_from:=⟨_,_,F21,b21,yaC X G a21⟩,Schema___init__:=⟨_,_,dt22,do22,dn22,F22,ld22,dd22,⟨a22,i22,k22⟩⟩,Schema_table_names:=⟨_,_,F23,b23,⟨a23,i23,k23⟩⟩,Schema_columns_of:=⟨_,_,F24,b24,⟨a24,i24,k24⟩⟩,_law_cell:=⟨_,_,F25,b25,yaC X G a25⟩,_law_draws:=⟨_,_,F26,b26,yaC X G a26⟩,_law_names:=⟨_,_,F27,b27,yaC X G a27⟩,_law_schema:=⟨_,_,F28,b28,yaC X G a28⟩,_law_value:=⟨_,_,F29,b29,yaC X G a29⟩,_law_row:=⟨_,_,F30,b30,yaC X G a30⟩,_law_table_rows:=⟨_,_,F31,b31,yaC X G a31⟩,_law_page_text:=⟨_,_,F32,b32,yaC X G a32⟩,_law_number:=⟨_,_,F33,b33,yaC X G a33⟩,_law_value_in:=⟨_,_,F34,b34,yaC X G a34⟩,_law_row_in:=⟨_,_,F35,b35,yaC X G a35⟩,_law_parsed:=⟨_,_,F36,b36,yaC X G a36⟩,_law_good:=⟨_,_,F37,b37,yaC X G a37⟩,_law_spoilt:=⟨_,_,F38,b38,yaC X G a38⟩,law:=⟨_,_,F39,b39,yaC X G a39⟩,b_abs:=ybg X G z_abs,b_all:=ybg X G z_all,b_bool:=ybg X G z_bool,b_dict:=ybg X G z_dict,b_enumerate:=ybg X G z_enumerate,b_int:=ybg X G z_int,b_isinstance:=ybg X G z_isinstance,b_len:=ybg X G z_len,b_list:=ybg X G z_list,b_range:=ybg X G z_range,b_set:=ybg X G z_set,b_sorted:=ybg X G z_sorted,b_str:=ybg X G z_str,b_tuple:=ybg X G z_tuple,b_zip:=ybg X G z_zip,u_BETWEEN_PARTS:=_,c_BETWEEN_PARTS:=yaC X G g_BETWEEN_PARTS,r_BETWEEN_PARTS:=⟨_,rfl⟩,u_FIGURES:=_,c_FIGURES:=yaC X G g_FIGURES,r_FIGURES:=⟨_,rfl⟩,u_GREATEST:=_,c_GREATEST:=yaC X G g_GREATEST,r_GREATEST:=⟨_,rfl⟩,u_LETTERS:=_,c_LETTERS:=yaC X G g_LETTERS,r_LETTERS:=⟨_,rfl⟩,u_LONGEST_NAME:=_,c_LONGEST_NAME:=yaC X G g_LONGEST_NAME,r_LONGEST_NAME:=⟨_,rfl⟩,u_MOST:=_,c_MOST:=yaC X G g_MOST,r_MOST:=⟨_,rfl⟩,u_MOST_FIGURES:=_,c_MOST_FIGURES:=yaC X G g_MOST_FIGURES,r_MOST_FIGURES:=⟨_,rfl⟩,u_MOST_ROWS:=_,c_MOST_ROWS:=yaC X G g_MOST_ROWS,r_MOST_ROWS:=⟨_,rfl⟩,u_PAGE_WORD:=_,c_PAGE_WORD:=yaC X G g_PAGE_WORD,r_PAGE_WORD:=⟨_,rfl⟩ }
 exact ⟨_,fun s v => .of_eq rfl,fun base _ _=>ok_law T⟩
theorem walk {l:PySem.W.OpenLaw} {q:Program} {loose:List Str} {XP:(Str→Option Value)→Heap→Prop} {YP:World→Heap→Prop} {d:DefRec} {K:Params→PySem.W.Frag} (hn:l.most=some 63) (hdf:d.params.defaults = [])
  (hY:∀ (w:World) (h:Heap),YP w h→(K w.params).In h)
  (F:∀ (w:World) (mg:Str→Option Value) (fa:Addr) (h:Heap),(K w.params).In h→h.Ns yar mg→mg d.name=some (.ref fa) →
   ∃ fd:FuncData,(∀ (s:Shared) (u:Value),BindsTo s fd ⟨[u],[]⟩ [("_law_script",u)])∧∀ base:Heap,(K w.params).In base→base.Ns yar mg→FnOk l.prog w (K w.params) mg base CX0 10 fa fd ["_law_script"] (zje (K w.params))) :
  PySem.W.WalkO q loose XP YP l.row.toRowW d [] (fun f vs=>PySem.call f vs) :=
 L2.walk_of (n:=63) (k:=10) (x := "_law_script") (CX:=fun _=>CX0) (sp:=fun w=>zje (K w.params)) hn (by decide) hdf ⟨rfl,by decide,by decide,rfl⟩ hY F (fun _ _ a ns hl _ hS=>⟨a,ns,rfl,hS,hl,fun _=>rfl⟩) fun _ _ _ _ _ z=>z
end K23
open PySem PySem.W PyProof.Rows
set_option maxRecDepth 100000 in
set_option maxHeartbeats 0 in
theorem PySem.Challenge.cw_planstore_k23_pages_as_texts_holds : PySem.Challenge.rw_planstore_k23_pages_as_texts.Holds := by
 w_on;o_law;k_head;(case hw=>w_witness2)
 k_fill
 refine K23.walk (l:=PySem.Challenge.rw_planstore_k23_pages_as_texts) rfl rfl (fun w h Y=>PySem.W.kIn_of Y) ?F
 case F =>
  intro w mg fa h KX G hmg
  refine' K23.all_mk KX G hmg ?aC_Schema ?pg_Schema ?hd_Schema ?po_Schema ?sa_Schema ?mk_Schema ?kc_Schema ?n_Schema_tables ?n_Schema_orders ?n_Schema_columns ?a0 ?l0 ?c0 ?k0 ?a1 ?l1 ?c1 ?k1 ?a2 ?l2 ?c2 ?k2 ?a3 ?l3 ?c3 ?k3 ?a4 ?l4 ?c4 ?k4 ?a5 ?l5 ?c5 ?k5 ?a6 ?l6 ?c6 ?k6 ?a7 ?l7 ?c7 ?k7 ?a8 ?l8 ?c8 ?k8 ?a9 ?l9 ?c9 ?k9 ?a10 ?l10 ?c10 ?k10 ?a11 ?l11 ?c11 ?k11 ?a12 ?l12 ?c12 ?k12 ?a13 ?l13 ?c13 ?k13 ?a14 ?l14 ?c14 ?k14 ?a15 ?l15 ?c15 ?k15 ?a16 ?l16 ?c16 ?k16 ?a17 ?l17 ?c17 ?k17 ?a18 ?l18 ?c18 ?k18 ?a19 ?l19 ?c19 ?k19 ?a20 ?l20 ?c20 ?k20 ?a21 ?l21 ?c21 ?k21 ?a22 ?i22 ?l22 ?ld22 ?dd22 ?c22 ?k22 ?a23 ?i23 ?l23 ?c23 ?k23 ?a24 ?i24 ?l24 ?c24 ?k24 ?a25 ?l25 ?c25 ?k25 ?a26 ?l26 ?c26 ?k26 ?a27 ?l27 ?c27 ?k27 ?a28 ?l28 ?c28 ?k28 ?a29 ?l29 ?c29 ?k29 ?a30 ?l30 ?c30 ?k30 ?a31 ?l31 ?c31 ?k31 ?a32 ?l32 ?c32 ?k32 ?a33 ?l33 ?c33 ?k33 ?a34 ?l34 ?c34 ?k34 ?a35 ?l35 ?c35 ?k35 ?a36 ?l36 ?c36 ?k36 ?a37 ?l37 ?c37 ?k37 ?a38 ?l38 ?c38 ?k38 ?a39 ?l39 ?c39 ?k39 ?z_abs ?z_all ?z_bool ?z_dict ?z_enumerate ?z_int ?z_isinstance ?z_len ?z_list ?z_range ?z_set ?z_sorted ?z_str ?z_tuple ?z_zip ?g_BETWEEN_PARTS ?g_FIGURES ?g_GREATEST ?g_LETTERS ?g_LONGEST_NAME ?g_MOST ?g_MOST_FIGURES ?g_MOST_ROWS ?g_PAGE_WORD ?nT_KINDS ?lT_KINDS ?xT_KINDS ?tT_KINDS ?zT_KINDS ?kT_KINDS
  (case aC_Schema=>k_is)
  (case pg_Schema=>k_is)
  (case hd_Schema=>k_is)
  (case po_Schema=>k_is)
  (case sa_Schema=>k_is)
  (case mk_Schema=>k_is)
  (case kc_Schema=>k_is)
  (case n_Schema_tables=>k_is)
  (case n_Schema_orders=>k_is)
  (case n_Schema_columns=>k_is)
  (case a0=>k_is)
  (case l0=>k_is)
  (case c0=>k_is)
  (case k0=>k_is)
  (case a1=>k_is)
  (case l1=>k_is)
  (case c1=>k_is)
  (case k1=>k_is)
  (case a2=>k_is)
  (case l2=>k_is)
  (case c2=>k_is)
  (case k2=>k_is)
  (case a3=>k_is)
  (case l3=>k_is)
  (case c3=>k_is)
  (case k3=>k_is)
  (case a4=>k_is)
  (case l4=>k_is)
  (case c4=>k_is)
  (case k4=>k_is)
  (case a5=>k_is)
  (case l5=>k_is)
  (case c5=>k_is)
  (case k5=>k_is)
  (case a6=>k_is)
  (case l6=>k_is)
  (case c6=>k_is)
  (case k6=>k_is)
  (case a7=>k_is)
  (case l7=>k_is)
  (case c7=>k_is)
  (case k7=>k_is)
  (case a8=>k_is)
  (case l8=>k_is)
  (case c8=>k_is)
  (case k8=>k_is)
  (case a9=>k_is)
  (case l9=>k_is)
  (case c9=>k_is)
  (case k9=>k_is)
  (case a10=>k_is)
  (case l10=>k_is)
  (case c10=>k_is)
  (case k10=>k_is)
  (case a11=>k_is)
  (case l11=>k_is)
  (case c11=>k_is)
  (case k11=>k_is)
  (case a12=>k_is)
  (case l12=>k_is)
  (case c12=>k_is)
  (case k12=>k_is)
  (case a13=>k_is)
  (case l13=>k_is)
  (case c13=>k_is)
  (case k13=>k_is)
  (case a14=>k_is)
  (case l14=>k_is)
  (case c14=>k_is)
  (case k14=>k_is)
  (case a15=>k_is)
  (case l15=>k_is)
  (case c15=>k_is)
  (case k15=>k_is)
  (case a16=>k_is)
  (case l16=>k_is)
  (case c16=>k_is)
  (case k16=>k_is)
  (case a17=>k_is)
  (case l17=>k_is)
  (case c17=>k_is)
  (case k17=>k_is)
  (case a18=>k_is)
  (case l18=>k_is)
  (case c18=>k_is)
  (case k18=>k_is)
  (case a19=>k_is)
  (case l19=>k_is)
  (case c19=>k_is)
  (case k19=>k_is)
  (case a20=>k_is)
  (case l20=>k_is)
  (case c20=>k_is)
  (case k20=>k_is)
  (case a21=>k_is)
  (case l21=>k_is)
  (case c21=>k_is)
  (case k21=>k_is)
  (case a22=>k_is)
  (case i22=>k_is)
  (case l22=>k_is)
  (case ld22=>(first | k_is | exact rfl))
  (case dd22=>exact rfl)
  (case c22=>k_is)
  (case k22=>k_is)
  (case a23=>k_is)
  (case i23=>k_is)
  (case l23=>k_is)
  (case c23=>k_is)
  (case k23=>k_is)
  (case a24=>k_is)
  (case i24=>k_is)
  (case l24=>k_is)
  (case c24=>k_is)
  (case k24=>k_is)
  (case a25=>k_is)
  (case l25=>k_is)
  (case c25=>k_is)
  (case k25=>k_is)
  (case a26=>k_is)
  (case l26=>k_is)
  (case c26=>k_is)
  (case k26=>k_is)
  (case a27=>k_is)
  (case l27=>k_is)
  (case c27=>k_is)
  (case k27=>k_is)
  (case a28=>k_is)
  (case l28=>k_is)
  (case c28=>k_is)
  (case k28=>k_is)
  (case a29=>k_is)
  (case l29=>k_is)
  (case c29=>k_is)
  (case k29=>k_is)
  (case a30=>k_is)
  (case l30=>k_is)
  (case c30=>k_is)
  (case k30=>k_is)
  (case a31=>k_is)
  (case l31=>k_is)
  (case c31=>k_is)
  (case k31=>k_is)
  (case a32=>k_is)
  (case l32=>k_is)
  (case c32=>k_is)
  (case k32=>k_is)
  (case a33=>k_is)
  (case l33=>k_is)
  (case c33=>k_is)
  (case k33=>k_is)
  (case a34=>k_is)
  (case l34=>k_is)
  (case c34=>k_is)
  (case k34=>k_is)
  (case a35=>k_is)
  (case l35=>k_is)
  (case c35=>k_is)
  (case k35=>k_is)
  (case a36=>k_is)
  (case l36=>k_is)
  (case c36=>k_is)
  (case k36=>k_is)
  (case a37=>k_is)
  (case l37=>k_is)
  (case c37=>k_is)
  (case k37=>k_is)
  (case a38=>k_is)
  (case l38=>k_is)
  (case c38=>k_is)
  (case k38=>k_is)
  (case a39=>k_is)
  (case l39=>k_is)
  (case c39=>k_is)
  (case k39=>k_is)
  (case z_abs=>k_is)
  (case z_all=>k_is)
  (case z_bool=>k_is)
  (case z_dict=>k_is)
  (case z_enumerate=>k_is)
  (case z_int=>k_is)
  (case z_isinstance=>k_is)
  (case z_len=>k_is)
  (case z_list=>k_is)
  (case z_range=>k_is)
  (case z_set=>k_is)
  (case z_sorted=>k_is)
  (case z_str=>k_is)
  (case z_tuple=>k_is)
  (case z_zip=>k_is)
  (case g_BETWEEN_PARTS=>k_is)
  (case g_FIGURES=>k_is)
  (case g_GREATEST=>k_is)
  (case g_LETTERS=>k_is)
  (case g_LONGEST_NAME=>k_is)
  (case g_MOST=>k_is)
  (case g_MOST_FIGURES=>k_is)
  (case g_MOST_ROWS=>k_is)
  (case g_PAGE_WORD=>k_is)
  (case nT_KINDS=>k_is)
  (case lT_KINDS=>(first | k_is | exact rfl))
  (case xT_KINDS=>(first | exact rfl | decide))
  (case tT_KINDS=>(first | exact rfl | decide))
  (case zT_KINDS=>(first | exact rfl | decide))
  (case kT_KINDS=>exact (.cons ⟨_,rfl⟩ (.cons ⟨_,rfl⟩ .nil)))
#print axioms PySem.Challenge.cw_planstore_k23_pages_as_texts_holds
