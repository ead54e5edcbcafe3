import PyProof.Rows.All
import Wide.All
import OpenK.AllK
import Wide.FinOn
import Lean
import PyProof.EqAt
import PyProof.EqKinds
import PyProof.TupleCall
import PyProof.DictKeyH
import PyProof.DictFindH
import PyProof.StrCalls2
import PyProof.StrCalls3
import PyProof.StrCalls
import PyProof.StrWalks
import PyProof.FString
import KE.KIntText
import PyProof.FitsReplace
import PyProof.StrLawsTight
import PyProof.StrLawsOcc
import PyProof.StrBlockI
import PyProof.SliceStr2
import PyProof.StrLawsChain
import PyProof.StrLaws
import PyProof.Rows.StrJoinMade
import PyProof.StrLawsIdx
import PyProof.StrLawsJoin
import PySem.Challenge.RW_signsmooth_k59_made_by_corners
set_option genSizeOf false
set_option bootstrap.genMatcherCode false
set_option Elab.async false
set_option linter.all false
set_option maxRecDepth 100000
set_option exponentiation.threshold 4000
namespace Hx
open PySem PySem.Spec PyProof.Rows
theorem kU:entryFor table "proto.unchain" = some Builtin.«proto.unchain»:=entryFor_of_tree (by kernel_rfl)
section
variable {prog:Program} {w:World} {A:Around} {E:Value->Shared->Prop} {s:Shared}
theorem pd {α:Type} {a h:Addr} {oa oh:Obj} {us vs:Array Value} {Q:α->Shared->Prop} (hh:A.handled=some (.ref h)) (hne:h ≠ a) (ha:s.heap.get? a=some oa) (hda:oa.data=.fields us) (hsz:2 < us.size)
   (ho:s.heap.get? h=some oh) (hd:oh.data=.fields vs) (h2:vs[2]?=some .none)
   (q:E (.ref a) { s with heap:=s.heap.update a (Obj.mapFields (·.setIfInBounds 2 (.ref h))) }):wpAny (model prog w) A (raiseNew (.ref a):Sem α) Q E s:=by
 unfold raiseNew; refine wpAny_bind (wpAny_handled ?_); rw [hh]
 dsimp only
 rw [if_pos (show (Value.ref h != Value.ref a)=true by simp [hne])]
 refine wpAny_bind (wpAny_holding (wpAny_runValue (codeAny_builtin kU ?_)))
 unfold Builtin.«proto.unchain»
 dsimp only
 refine wpAny_bind (wpAny_field ho hd h2 ?_)
 rw [if_pos (show (Value.none == Value.none)=true by decide)]
 refine wpAny_pure ?_
 show wpAny _ A (do let _ <- updateField a 2 (.ref h); throw (Value.ref a)) _ _ _
 unfold updateField
 refine wpAny_bind (wpAny_bind (wpAny_load ha ?_))
 rw [hda]
 dsimp only
 rw [if_pos hsz]
 exact wpAny_update ha (wpAny_throw q)
theorem qg {r h:Addr} {v left step:Int} {oh:Obj} {vs:Array Value} {Q:Option Value->Shared->Prop} (hh:A.handled=some (.ref h)) (ho:s.heap.get? h=some oh) (hd:oh.data=.fields vs) (h2:vs[2]?=some .none)
   (hr:IsRangeIter s.heap r v left step) (hl:left<=0) (k:∀ h',Heap.ExtBut r s.heap h'->Q none { s with heap:=h' }):wpAny (model prog w) A (pyNext (.ref r)) Q E s:=by
 have ty:s.TypeIs (.ref r) "range_iterator":=⟨_,hr,rfl⟩
 have hlt:=Heap.lt_size ho
 have fl:∀ {α:Type} {B:Around} {F:Value->Shared->Prop} {R:α->Shared->Prop} (i:Nat) (y:Int) {f:Value->Sem α},(#[rawInt v,rawInt left,rawInt step]:Array Value)[i]?=some (rawInt y)->wpAny (model prog w) B (f (rawInt y)) R F s->wpAny (model prog w) B (field (.ref r) i >>= f) R F s:=by
   intro α B F R i y f e q
   exact wpAny_bind (wpAny_field hr rfl e q)
 unfold pyNext
 refine wpAny_bind (wpAny_attempt (wpAny_callSpecial?_slot (name:=Str.ofString "__next__") ty F.slot_range_iterator_next (wpAny_call_entry F.slot_range_iterator_next ty F.entry_range_iterator_next (fl 0 v rfl (fl 1 left rfl (fl 2 step rfl ?_))) (F.args_range_iterator_next_1 _))))
 show wpAny (model prog w) A.in1 (if left<=0 then _ else _) _ _ s
 rw [if_pos hl]
 refine wpAny_bind (wpAny_rule (wpAny_bind ?_))
 show wpAny _ _ (do let e <- newExc (.type "StopIteration") []; _) _ _ _
 refine wpAny_bind ?_
 simp only [newExc,newTuple]
 refine wpAny_bind (wpAny_newObj_type (wpAny_bind (m:=firstArgMember _ _) (wpAny_of_eq (a:=.none) (by first | rfl | (simp only [firstArgMember]; rfl)) (wpAny_newObj_type ?_ (by size_fits)))) (by size_fits))
 have hg:((s.heap.push { cls:=.type "tuple",data:=.seq ([]:List Value).toArray }).push { cls:=.type "StopIteration",data:=.fields (#[Value.ref s.heap.objs.size,.none,.none,.none,.bool false,.none]++ownMembersOf (.type "StopIteration") []) }).get? (s.heap.push { cls:=.type "tuple",data:=.seq ([]:List Value).toArray }).objs.size
     = some { cls:=.type "StopIteration",data:=.fields (#[Value.ref s.heap.objs.size,.none,.none,.none,.bool false,.none]++ownMembersOf (.type "StopIteration") []) }:=Heap.get?_push_size _ rfl
 refine pd (h:=h) (A:=A.in1) hh ?_ hg rfl (by rw [Array.size_append]; exact Nat.lt_of_lt_of_le (by decide:2 < 6) (Nat.le_add_right _ _)) (Heap.get?_push_of_some _ (Heap.get?_push_of_some _ ho)) hd h2 ?_
 · intro z
   rw [Heap.size_push] at z
   exact absurd hlt (by rw [z]; exact Nat.not_lt.mpr (Nat.le_succ _))
 have hu:=Heap.get?_update_self (Obj.mapFields (·.setIfInBounds 2 (.ref h))) hg rfl
 refine wpAny_bind (wpAny_isInstance (T:="StopIteration") (b:=true) ⟨_,hu,rfl⟩ isSubtype_stop ?_)
 refine wpAny_pure (k _ λb o hb e=>?_)
 have bl:=Heap.lt_size e
 rw [Heap.get?_update_other _ _ (by intro z; rw [Heap.size_push] at z; exact absurd bl (by rw [<- z]; exact Nat.not_lt.mpr (Nat.le_succ _)))]
 exact Heap.get?_push_of_some _ (Heap.get?_push_of_some _ e)
end
end Hx
set_option linter.all false
set_option maxRecDepth 100000
namespace L2
open PySem PySem.Spec PyProof.Rows
noncomputable abbrev Key:=Sum Int Str
noncomputable def lx:Key->Value->Bool
 | .inl k,v=>Value.isInt k v
 | .inr x,v=>Value.isStrOf x v
noncomputable def DD (w:World):Key->Int
 | .inl k=>hashInt k
 | .inr x=>hashStr w x
theorem bo:∀ {k:Key} {v:Value},lx k v=true->(∃ i t,k=Sum.inl i/\v=Value.int i t)\/(∃ x t,k=Sum.inr x/\v=Value.str x t)
 | .inl i,v,h=>by
   obtain ⟨t,e⟩:=Value.isInt_shape (k:=i) (v:=v) h
   exact .inl ⟨i,t,rfl,e⟩
 | .inr x,v,h=>by
   obtain ⟨t,e⟩:=Value.isStrOf_shape (x:=x) (v:=v) h
   exact .inr ⟨x,t,rfl,e⟩
theorem sW (i:Int) (t:Tok):lx (.inl i) (.int i t)=true:=by simp [lx,Value.isInt]
theorem tw (x:Str) (t:Tok):lx (.inr x) (.str x t)=true:=by simp [lx,Value.isStrOf]
theorem yY (a b:Int):decide ((Sum.inl a:Key)=Sum.inl b)=(a == b):=by
 by_cases e:a=b
 · subst e; simp
 · have h:¬ (Sum.inl a:Key)=Sum.inl b:=λq=>e (Sum.inl.inj q)
   rw [decide_eq_false h]
   exact (beq_eq_false_iff_ne.mpr e).symm
theorem zm (a b:Str):decide ((Sum.inr a:Key)=Sum.inr b)=decide (a=b):=by
 by_cases e:a=b
 · subst e; simp
 · have h:¬ (Sum.inr a:Key)=Sum.inr b:=λq=>e (Sum.inr.inj q)
   rw [decide_eq_false h,decide_eq_false e]
theorem Aw (a:Int) (b:Str):decide ((Sum.inl a:Key)=Sum.inr b)=false:=decide_eq_false (λq=>nomatch q)
theorem zd (a:Str) (b:Int):decide ((Sum.inr a:Key)=Sum.inl b)=false:=decide_eq_false (λq=>nomatch q)
noncomputable def bJ (prog:Program) (w:World):PySem.KeyKind prog w Key where
 is:=lx
 hash:=DD w
 inj:=λv a b ha hb=>by
   rcases bo ha with ⟨i,t,rfl,rfl⟩ | ⟨x,t,rfl,rfl⟩
   · rcases bo hb with ⟨j,u,rfl,e⟩ | ⟨y,u,rfl,e⟩
     · injection e with e1 _; rw [e1]
     · exact nomatch e
   · rcases bo hb with ⟨j,u,rfl,e⟩ | ⟨y,u,rfl,e⟩
     · exact nomatch e
     · injection e with e1 _; rw [e1]
 byValue:=λk v h=>by
   rcases bo h with ⟨i,t,rfl,rfl⟩ | ⟨x,t,rfl,rfl⟩ <;> rfl
 pyHash:=λhv h=>by
   rcases bo hv with ⟨i,t,rfl,rfl⟩ | ⟨x,t,rfl,rfl⟩
   · exact wpAny_pyHash_int h
   · exact wpAny_pyHash_str h
 eqBool:=λhu hv h=>by
   rcases bo hu with ⟨i,t,rfl,rfl⟩ | ⟨x,t,rfl,rfl⟩
   · rcases bo hv with ⟨j,u,rfl,rfl⟩ | ⟨y,u,rfl,rfl⟩
     · rw [yY] at h; exact wpAny_eqBool_int h
     · rw [Aw] at h; exact SeqAt.EqAt.int_str i t y u _ _ _ _ h
   · rcases bo hv with ⟨j,u,rfl,rfl⟩ | ⟨y,u,rfl,rfl⟩
     · rw [zd] at h; exact SeqAt.EqAt.str_int x t j u _ _ _ _ h
     · rw [zm] at h; exact wpAny_eqBool_str h
 «strs»:=λk x t v h=>by
   rcases bo h with ⟨i,u,rfl,e⟩ | ⟨y,u,rfl,e⟩
   · exact nomatch e
   · injection e with e1 _
     subst e1
     cases v <;> rfl
theorem oY (prog:Program) (w:World) (i:Int) (t:Tok):(bJ prog w).is (.inl i) (.int i t)=true:=sW i t
theorem oM (prog:Program) (w:World) (x:Str) (t:Tok):(bJ prog w).is (.inr x) (.str x t)=true:=tw x t
inductive V where
 | non | bl (b:Bool) | int (i:Int) | str (x:Str) | byt (b:Array UInt8) | flt (b:UInt64) | ref (a:Addr) | ty (n:String)
 deriving DecidableEq
noncomputable def RelV:V->Value->Prop
 | .non,u=>u=Value.none
 | .bl b,u=>u=Value.bool b
 | .int i,u=>∃ t,u=Value.int i t
 | .str x,u=>∃ t,u=Value.str x t
 | .byt b,u=>∃ t,u=Value.bytes b t
 | .flt b,u=>∃ t,u=Value.float b t
 | .ref a,u=>u=Value.ref a
 | .ty n,u=>u=Value.type n
noncomputable abbrev Vals:List V->List Value->Prop:=Paired RelV
theorem Vals.length {xs:List V} {us:List Value} (r:Vals xs us):xs.length=us.length:=Paired.length r
theorem Vals.get:∀ {xs:List V} {us:List Value} {i:Nat} {x:V},Vals xs us->xs[i]?=some x->∃ u,us[i]?=some u/\RelV x u
 | _,_,_,_,.nil,e=>by simp at e
 | _,_,0,_,.cons r _,e=>by simp at e; subst e; exact ⟨_,rfl,r⟩
 | _,_,i + 1,x,.cons _ t,e=>by
   obtain ⟨u,h1,h2⟩:=Vals.get (i:=i) (x:=x) t (by simpa using e)
   exact ⟨u,by simpa using h1,h2⟩
theorem Vals.set {x:V} {u:Value} (r:RelV x u):∀ {xs:List V} {us:List Value} (i:Nat),Vals xs us->Vals (xs.set i x) (us.set i u)
 | _,_,_,.nil=>.nil
 | _,_,0,.cons _ t=>.cons r t
 | _,_,i + 1,.cons q t=>.cons q (Vals.set r i t)
theorem Vals.append:∀ {xs ys:List V} {us ws:List Value},Vals xs us->Vals ys ws->Vals (xs++ys) (us++ws)
 | _,_,_,_,.nil,s=>s
 | _,_,_,_,.cons r t,s=>.cons r (Vals.append t s)
theorem Vals.take:∀ {xs:List V} {us:List Value} (n:Nat),Vals xs us->Vals (xs.take n) (us.take n)
 | _,_,0,_=>.nil
 | _,_,_ + 1,.nil=>.nil
 | _,_,n + 1,.cons r t=>.cons r (Vals.take n t)
theorem Vals.drop:∀ {xs:List V} {us:List Value} (n:Nat),Vals xs us->Vals (xs.drop n) (us.drop n)
 | _,_,0,r=>r
 | _,_,_ + 1,.nil=>.nil
 | _,_,n + 1,.cons _ t=>Vals.drop n t
noncomputable def oQ:Option V->Option Value->Prop
 | some v,some u=>RelV v u
 | none,none=>True
 | _,_=>False
noncomputable def KV {κ:Type}:List (κ × V)->List (κ × Value)->Prop:=Paired λ(p:κ × V) (q:κ × Value)=>p.1=q.1/\RelV p.2 q.2
noncomputable def kV:Key->V
 | .inl i=>.int i
 | .inr x=>.str x
inductive HO where
 | lst (xs:List V)
 | tup (xs:List V)
 | dK (kvs:List (Key × V)) | dT (kvs:List (List Key × V))
 | set (S:Int->Bool) (n:Nat)
 | ins (C dx:Addr) (fs:List (Str × V))
 | own (x:Addr)
 | xd (fs:List (Str × V))
 | met (f x:Addr)
 | rng (lo hi:Int)
 | frz (o:Obj) (u:HO)
 | tbl (ps:Array Value)
 | ext (φ:Heap->Prop)
noncomputable abbrev Hp:=Addr->Option HO
noncomputable def upd (H:Hp) (a:Addr) (o:HO):Hp:=λb=>if b=a then some o else H b
theorem aJ {H:Hp} {a:Addr} {o:HO}:upd H a o a=some o:=by unfold upd; rw [if_pos rfl]
theorem av {H:Hp} {a b:Addr} {o:HO} (h:b ≠ a):upd H a o b=H b:=by unfold upd; rw [if_neg h]
theorem aG {H:Hp} {a b:Addr} {o:HO} (h:H a=some o) (h':H b=none):a ≠ b:=by
 intro e; subst e; rw [h] at h'; cases h'
section
variable (P:Program) (w:World)
noncomputable def bR (H:Hp) (h:Heap) (a:Addr):HO->Prop
 | .lst xs=>xs.length<=sizeLine/\∃ (its:List Value) (n:Nat),Vals xs its/\h.get? a=some { cls:=.type "list",data:=.seq its.toArray n }
 | .tup xs=>xs.length<=sizeLine/\∃ its:List Value,Vals xs its/\IsTup h a its.toArray
 | .dK kvs=>kvs.length<=sizeLine/\(a == sysModules)=false/\∃ vs,KV kvs vs/\h.DictOf (bJ P w) a vs
 | .dT kvs=>kvs.length<=sizeLine/\(a == sysModules)=false/\∃ xs:List (List Key × Addr × Value),
     Paired (λ(p:List Key × V) (q:List Key × Addr × Value)=>p.1=q.1/\H q.2.1=some (.tup (p.1.map kV))/\RelV p.2 q.2.2) kvs xs /\
     ∃ o es ep,h.get? a=some o/\o.ExactDict/\o.data=.dict es ep/\es.toList=xs.map (entryOfKey (tupleKind (bJ P w)))/\(xs.map (·.1)).Nodup
 | .set S n=>h.SetOf (intKind P w) a S n
 | .ins C dx fs=>H dx=some (.own a)/\fs.length<=1000/\dx ≠ a/\h.get? a=some (PySem.W.instObj C dx) /\
     ∃ mA,h.Ns1 dx mA/\(∀ f,oQ (fs.lookup f) (mA f))/\PySem.Within mA (fs.map (·.1))
 | .own _=>∃ o,h.get? a=some o
 | .xd fs=>∃ mA,h.Ns1 a mA/\∀ f,oQ (fs.lookup f) (mA f)
 | .rng lo hi=>∃ t u v,h.get? a=some { cls:=.type "range",data:=.fields #[.int lo t,.int hi u,.int 1 v] }
 | .frz o u=>h.get? a=some o/\bR H h a u
 | .tbl ps=>h.get? a=some { cls:=.none,data:=.fields ps }
 | .met f x=>h.get? a=some (PySem.W.methodObj (.ref f) (.ref x))
 | .ext φ=>φ h/\(∃ o,h.get? a=some o)/\∀ h1 h2:Heap,φ h1->(∀ o,h1.get? a=some o->h2.get? a=some o)->φ h2
noncomputable def HOk (H:Hp) (h:Heap):Prop:=∀ a o,H a=some o->bR P w H h a o
end
section
variable {P:Program} {w:World} {H H':Hp} {h h':Heap} {a:Addr} {o:HO}
theorem bR.lt (x:bR P w H h a o):a < h.objs.size:=by
 cases o with
 | lst xs=>obtain ⟨_,_,_,_,e⟩:=x; exact Heap.lt_size e
 | tup xs=>obtain ⟨_,_,_,p⟩:=x; exact p.lt
 | dK kvs=>obtain ⟨_,_,_,_,o,_,_,e,_⟩:=x; exact Heap.lt_size e
 | dT kvs=>obtain ⟨_,_,_,_,o,_,_,e,_⟩:=x; exact Heap.lt_size e
 | set S n=>obtain ⟨o,_,_,_,e,_⟩:=x; exact Heap.lt_size e
 | ins C dx fs=>obtain ⟨_,_,_,e,_⟩:=x; exact Heap.lt_size e
 | own y=>obtain ⟨_,e⟩:=x; exact Heap.lt_size e
 | xd fs=>obtain ⟨_,⟨_,_,_,e,_⟩,_⟩:=x; exact Heap.lt_size e
 | rng lo hi=>obtain ⟨_,_,_,e⟩:=x; exact Heap.lt_size e
 | frz ob u=>obtain ⟨e,_⟩:=x; exact Heap.lt_size e
 | tbl ps=>exact Heap.lt_size (show h.get? a=some _ from x)
 | met f y=>exact Heap.lt_size (show h.get? a=some _ from x)
 | ext φ=>obtain ⟨_,⟨_,e⟩,_⟩:=x; exact Heap.lt_size e
theorem Paired.Cy {α β:Type} {F G:α->β->Prop}:∀ {l₁:List α} {l₂:List β},Paired F l₁ l₂->(∀ a b,F a b->G a b)->Paired G l₁ l₂
 | _,_,.nil,_=>.nil
 | _,_,.cons r t,f=>.cons (f _ _ r) (Paired.Cy t f)
theorem bR.fy (x:bR P w H h a o) (k:∀ b u,(b=a\/H b=some (.own a))->h.get? b=some u->h'.get? b=some u)
   (ho:∀ b,H b=some (.own a)->H' b=some (.own a)) (ht:∀ b xs,H b=some (.tup xs)->H' b=some (.tup xs)):bR P w H' h' a o:=by
 induction o with
 | lst xs=>obtain ⟨z,its,n,r,e⟩:=x; exact ⟨z,its,n,r,k _ _ (.inl rfl) e⟩
 | tup xs=>obtain ⟨z,its,r,ob,e,c⟩:=x; exact ⟨z,its,r,ob,k _ _ (.inl rfl) e,c⟩
 | dK kvs=>obtain ⟨z,y,vs,r,ob,es,ep,e,c⟩:=x; exact ⟨z,y,vs,r,ob,es,ep,k _ _ (.inl rfl) e,c⟩
 | dT kvs=>
   obtain ⟨z,y,xs,r,ob,es,ep,e,c⟩:=x
   exact ⟨z,y,xs,Paired.Cy r λp q z=>⟨z.1,ht _ _ z.2.1,z.2.2⟩,ob,es,ep,k _ _ (.inl rfl) e,c⟩
 | set S n=>obtain ⟨ob,es,ep,t,e,c⟩:=x; exact ⟨ob,es,ep,t,k _ _ (.inl rfl) e,c⟩
 | ins C dx fs=>
   obtain ⟨d,z,ne,e,mA,⟨od,es,ep,e2,c⟩,r⟩:=x
   exact ⟨ho _ d,z,ne,k _ _ (.inl rfl) e,mA,⟨od,es,ep,k _ _ (.inr d) e2,c⟩,r⟩
 | own y=>obtain ⟨ob,e⟩:=x; exact ⟨ob,k _ _ (.inl rfl) e⟩
 | xd fs=>obtain ⟨mA,⟨od,es,ep,e,c⟩,r⟩:=x; exact ⟨mA,⟨od,es,ep,k _ _ (.inl rfl) e,c⟩,r⟩
 | rng lo hi=>obtain ⟨t,u,v,e⟩:=x; exact ⟨t,u,v,k _ _ (.inl rfl) e⟩
 | frz ob u ih=>obtain ⟨e,q⟩:=x; exact ⟨k _ _ (.inl rfl) e,ih q⟩
 | tbl ps=>
   have e:h.get? a=some { cls:=.none,data:=.fields ps }:=x
   show h'.get? a=some { cls:=.none,data:=.fields ps }
   exact k a _ (.inl rfl) e
 | met f y=>
   have e:h.get? a=some (PySem.W.methodObj (.ref f) (.ref y)):=x
   show h'.get? a=some (PySem.W.methodObj (.ref f) (.ref y))
   exact k a _ (.inl rfl) e
 | ext φ=>obtain ⟨p,⟨o,e⟩,st⟩:=x; exact ⟨st _ _ p λo q=>k _ _ (.inl rfl) q,⟨o,k _ _ (.inl rfl) e⟩,st⟩
theorem HOk.lt (x:HOk P w H h) (e:H a=some o):a < h.objs.size:=(x a o e).lt
theorem HOk.fresh (x:HOk P w H h) (e:h.objs.size<=a):H a=none:=by
 cases q:H a with
 | none=>rfl
 | some u=>exact absurd (Nat.lt_of_lt_of_le (x.lt q) e) (Nat.lt_irrefl _)
theorem HOk.kept (x:HOk P w H h) (k:∀ b u,h.get? b=some u->h'.get? b=some u):HOk P w H h':=λa o e=>
 (x a o e).fy (λb u _ q=>k b u q) (λ_ q=>q) λ_ _ q=>q
theorem HOk.laid (x:HOk P w H h) (k:∀ b u,h.get? b=some u->h'.get? b=some u) (hp:h.objs.size<=a) (new:bR P w (upd H a o) h' a o):HOk P w (upd H a o) h':=λb u e=>by
 have hn:=x.fresh hp
 by_cases hb:b=a
 · subst hb; rw [aJ] at e; cases e; exact new
 · rw [av hb] at e
   exact (x b u e).fy (λc v _ q=>k c v q) (λc q=>by rw [av (aG q hn)]; exact q) λc xs q=>by rw [av (aG q hn)]; exact q
end
noncomputable def Rd (H:Hp) (a:Addr) (u:HO):Prop:=H a=some u\/∃ o,H a=some (.frz o u)
theorem Rd.ok {P:Program} {w:World} {H:Hp} {h:Heap} {a:Addr} {u:HO} (r:Rd H a u) (x:HOk P w H h):bR P w H h a u:=by
 rcases r with r | ⟨o,r⟩
 · exact x a u r
 · obtain ⟨_,q⟩:=x a _ r
   exact q
noncomputable def Mut:Option HO->Prop
 | some (.lst _)=>True
 | some (.dK _)=>True
 | some (.dT _)=>True
 | some (.set _ _)=>True
 | some (.ins _ _ _)=>True
 | some (.ext _)=>True
 | _=>False
section
variable {P:Program} {w:World} {H:Hp} {h h':Heap} {x e:Addr} {o':HO}
theorem HOk.write (ok:HOk P w H h) (mu:Mut (H x)) (he:e=x\/H e=some (.own x)) (k:∀ b u,b ≠ e->h.get? b=some u->h'.get? b=some u) (heo:∃ u,h'.get? e=some u)
   (new:bR P w (upd H x o') h' x o'):HOk P w (upd H x o') h':=λb u q=>by
 have nown:∀ c y,H c=some (.own y)->c ≠ x:=λc y r z=>by subst z; rw [r] at mu; exact mu
 have ntup:∀ c xs,H c=some (.tup xs)->c ≠ x:=λc xs r z=>by subst z; rw [r] at mu; exact mu
 by_cases hb:b=x
 · subst hb; rw [aJ] at q; cases q; exact new
 · rw [av hb] at q
   by_cases hbe:b=e
   · have q':H b=some (.own x):=by
       rcases he with z | z
       · exact absurd (hbe.trans z) hb
       · rw [hbe]; exact z
     rw [q] at q'; cases q'
     obtain ⟨v,hv⟩:=heo
     exact ⟨v,by rw [hbe]; exact hv⟩
   · refine (ok b u q).fy (λc v hc r=>k c v ?_ r) (λc r=>by rw [av (nown c b r)]; exact r) λc xs r=>by rw [av (ntup c xs r)]; exact r
     rcases hc with rfl | hc
     · exact hbe
     · rintro rfl
       rcases he with z | z
       · exact nown c b hc z
       · rw [hc] at z; cases z; exact hb rfl
end
structure Un (fs ex:List Addr) (H H':Hp) (h h':Heap):Prop where
 keep:∀ b o,h.get? b=some o->H b=none->b ∉ fs->b ∉ ex->h'.get? b=some o
 slot:∀ b o,h.get? b=some o->H b=none->b ∈ fs->b ∉ ex->∃ sl,h'.get? b=some { o with slots:=sl }
 free:∀ b o,h.get? b=some o->H b=none->b ∉ ex->H' b=none
 there:∀ b o,h.get? b=some o->b ∉ ex->∃ o',h'.get? b=some o'
 tups:∀ b xs,H b=some (.tup xs)->H' b=some (.tup xs)
 frzs:∀ b o u,H b=some (.frz o u)->H' b=some (.frz o u)
 tbls:∀ b ps,H b=some (.tbl ps)->∃ more,H' b=some (.tbl (ps++more))
section
variable {fs fs' ex ex':List Addr} {H H1 H2:Hp} {h h1 h2 h':Heap} {a x e:Addr} {o:HO}
theorem Un.any (u:Un fs ex H H1 h h1) {b:Addr} {ob:Obj} (q:h.get? b=some ob) (n:H b=none) (hx:b ∉ ex):∃ sl,h1.get? b=some { ob with slots:=sl }:=by
 by_cases hb:b ∈ fs
 · exact u.slot b ob q n hb hx
 · exact ⟨ob.slots,u.keep b ob q n hb hx⟩
theorem Un.kept (k:∀ b u,h.get? b=some u->h'.get? b=some u):Un fs ex H H h h':=
 ⟨λb ob q _ _ _=>k b ob q,λb ob q _ _ _=>⟨ob.slots,k b ob q⟩,λ_ _ _ n _=>n,λb ob q _=>⟨ob,k b ob q⟩,λ_ _ q=>q,λ_ _ _ q=>q,λ_ ps q=>⟨#[],by rw [q]; simp⟩⟩
theorem Un.refl:Un fs ex H H h h:=Un.kept λ_ _ q=>q
theorem Un.laid (k:∀ b u,h.get? b=some u->h'.get? b=some u) (hp:h.objs.size<=a) (hn:H a=none):Un fs ex H (upd H a o) h h' where
 keep:=λb u q _ _ _=>k b u q
 slot:=λb u q _ _ _=>⟨u.slots,k b u q⟩
 free:=λb u q n _=>by rw [av (Nat.ne_of_lt (Nat.lt_of_lt_of_le (Heap.lt_size q) hp))]; exact n
 there:=λb u q _=>⟨u,k b u q⟩
 tups:=λb xs q=>by rw [av (aG q hn)]; exact q
 frzs:=λb u xs q=>by rw [av (aG q hn)]; exact q
 tbls:=λb ps q=>⟨#[],by rw [av (aG q hn),q]; simp⟩
theorem Un.write (mu:Mut (H x)) (he:e=x\/H e=some (.own x)) (k:∀ b u,b ≠ e->h.get? b=some u->h'.get? b=some u) (heo:∃ u,h'.get? e=some u):Un fs ex H (upd H x o) h h':=by
 have hx:∀ b,H b=none->b ≠ x:=λb n z=>by subst z; rw [n] at mu; exact mu
 have hb:∀ b,H b=none->b ≠ e:=λb n z=>by
   subst z
   rcases he with r | r
   · exact hx b n r
   · rw [n] at r; cases r
 have hm:∀ b u,H b=some u->¬ Mut (some u)->b ≠ x:=λb u q nm z=>by subst z; rw [q] at mu; exact nm mu
 refine ⟨λb u q n _ _=>k b u (hb b n) q,λb u q n _ _=>⟨u.slots,k b u (hb b n) q⟩,λb u q n _=>by rw [av (hx b n)]; exact n,λb u q _=>?_,
   λb xs q=>by rw [av (hm b _ q λz=>z)]; exact q,λb u xs q=>by rw [av (hm b _ q λz=>z)]; exact q,λb ps q=>⟨#[],by rw [av (hm b _ q λz=>z),q]; simp⟩⟩
 by_cases hbe:b=e
 · subst hbe; exact heo
 · exact ⟨u,k b u hbe q⟩
end
noncomputable def trk (h:Heap) (H:Hp):List Addr:=(List.range h.objs.size).filter λa=>(H a).isSome
noncomputable def nk (h:Heap) (H:Hp):Heap:=PySem.W.hideAll h (trk h H)
theorem sF (h:Heap) (H:Hp):(nk h H).objs.size=h.objs.size:=PySem.W.hideAll_size _ _
theorem wj {h:Heap} {H:Hp} {b:Addr} {o:Obj} (e:h.get? b=some o) (n:H b=none):(nk h H).get? b=some o:=
 PySem.W.hideAll_get _ e λhm=>by
   have q:(H b).isSome=true:=(List.mem_filter.mp hm).2
   rw [n] at q; simp at q
theorem xh {h:Heap} {H:Hp} {b:Addr} {o:Obj} (e:(nk h H).get? b=some o):h.get? b=some o/\H b=none:=by
 have e':h.get? b=some o:=PySem.W.of_hideAll (trk h H) e
 refine ⟨e',?_⟩
 cases q:H b with
 | none=>rfl
 | some x=>
   have hm:b ∈ trk h H:=List.mem_filter.mpr ⟨List.mem_range.mpr (Heap.lt_size e'),by simp [q]⟩
   have z:(nk h H).get? b=none:=PySem.W.hideAll_none (trk h H) hm
   rw [z] at e; cases e
noncomputable def xo (g h:Heap) (L:Addr):List (Addr × Obj):=(List.range h.objs.size).filterMap λa=>if a=L\/(g.get? a).isSome=true then none else (h.get? a).map λo=>(a,o)
noncomputable def rest (g h:Heap) (L d:Addr):List (Addr × Obj):=(xo g h L).filter λp=>decide (p.1 ≠ d)
structure Mod (K:PySem.W.Frag) (mg:Str->Option Value) (base:Heap):Prop where
 kin:K.In base
 glob:base.Ns mainGlobals mg
 blt:∃ mb,base.Ns builtinsNs mb/\∀ x:Str,x ≠ "__name__" -> mb x=bootBuiltins x
 nolimit:base.NoLimit
structure Cx where
 prog:Program
 w:World
 K:PySem.W.Frag
 mg:Str->Option Value
 base:Heap
 A:Around
 N:List Str
 s₀:Shared
 H₀:Hp
 env:Env
 outer:List Env
 stack:List Env
 ex:List Addr
 fn:Str->Bool
 calm:Bool
 pn:List (Addr × Obj)
 xe:Value->Shared->Prop
noncomputable def frs (l:List Env):List Addr:=l.filterMap (·.frame)
noncomputable abbrev Cx.fs (X:Cx):List Addr:=frs X.outer
noncomputable def Vis (sc:Scope) (x:Str):Prop:=sc.names.lookup x=some .local\/sc.names.lookup x=some .cell\/sc.names.lookup x=some .free
noncomputable def Loc (sc:Scope) (x:Str):Prop:=sc.names.lookup x=some .local\/sc.names.lookup x=some .cell
noncomputable def Look (env:Env) (h:Heap) (m:Str->Option Value) (x:Str) (u:Value):Prop:=
 (env.kindOf x=some .local/\m x=some u)\/((env.kindOf x=some .cell\/env.kindOf x=some .free)/\∃ c,env.cells.lookup x=some c/\h.IsCell c (some u))
structure Cx.Ok (X:Cx):Prop where
 mod:Mod X.K X.mg X.base
 kind:X.env.scope.kind=.function
 glob:X.env.globals=mainGlobals
 blt:X.env.builtins=builtinsNs
 above:X.s₀.heap.objs.size<=X.env.locals
 inj:∀ x y c,X.env.cells.lookup x=some c->X.env.cells.lookup y=some c->x=y
 has:∀ x,(X.env.kindOf x=some .cell\/X.env.kindOf x=some .free)->∃ c,X.env.cells.lookup x=some c
 cab:∀ x c,X.fn x=true->X.env.cells.lookup x=some c->X.s₀.heap.objs.size<=c
 hd:X.calm=true->X.A.handled=none
 frames:X.A.frames=some X.stack
 stk:X.stack=X.outer\/(X.stack=X.env :: X.outer/\X.env.frame=some X.env.locals)
 exf:∀ b ∈ X.ex,b ≠ X.env.locals/\∀ x c,X.env.cells.lookup x=some c->c ≠ b
 bs:∀ b o,X.base.get? b=some o->X.s₀.heap.get? b=some o/\X.H₀ b=none
 bsz:X.base.objs.size<=X.s₀.heap.objs.size
 noex:∀ b o,X.base.get? b=some o->b ∉ X.ex
 exfs:∀ b ∈ X.ex,b ∉ X.fs
 iZ:X.s₀.heap.FunFrames X.base X.outer
 frf:∀ b ∈ X.fs,X.H₀ b=none
structure Inv (X:Cx) (pins:List (Addr × Obj)) (σ:List (Option V)) (H:Hp) (s:Shared):Prop where
 ok:X.Ok
 os:s.os=X.s₀.os
 bare:AllBare s.gens
 base:Un X.fs X.ex X.H₀ H X.s₀.heap s.heap
 loc:∃ m,s.heap.Ns X.env.locals m/\∀ (i:Nat) (x:Str) (v:V),X.N[i]?=some x->σ[i]?=some (some v)->Vis X.env.scope x->∃ u,RelV v u/\Look X.env s.heap m x u
 cell:∀ x c,X.env.cells.lookup x=some c->∃ v,s.heap.IsCell c v
 free:H X.env.locals=none
 freeC:∀ x c,X.env.cells.lookup x=some c->H c=none
 pin:∀ p ∈ X.pn++pins,s.heap.get? p.1=some p.2/\H p.1=none/\p.1 ≠ X.env.locals/\p.1 ∉ X.fs/\∀ v,p.2.data ≠ .cell v
 hok:HOk X.prog X.w H s.heap
 len:σ.length=X.N.length
section
variable {X:Cx} {pins:List (Addr × Obj)} {σ:List (Option V)} {H H':Hp} {s:Shared} {h':Heap}
theorem Cx.Ok.DJ (ok:X.Ok) {b:Addr} {o:Obj} (e:X.base.get? b=some o):b ∉ X.fs:=λhb=>by
 have:=(ok.iZ.mem hb).1
 rw [e] at this; cases this
theorem Inv.bs (I:Inv X pins σ H s):∀ b o,X.base.get? b=some o->s.heap.get? b=some o/\H b=none:=λb o e=>
 ⟨I.base.keep b o (I.ok.bs b o e).1 (I.ok.bs b o e).2 (I.ok.DJ e) (I.ok.noex b o e),I.base.free b o (I.ok.bs b o e).1 (I.ok.bs b o e).2 (I.ok.noex b o e)⟩
theorem Inv.bk (I:Inv X pins σ H s):∀ b o,X.base.get? b=some o->s.heap.get? b=some o:=λb o e=>(I.bs b o e).1
theorem Inv.mod (I:Inv X pins σ H s):Mod X.K X.mg X.base:=I.ok.mod
theorem Inv.kIn (I:Inv X pins σ H s):X.K.In s.heap:=I.ok.mod.kin.keeps I.bk
theorem Inv.lt (I:Inv X pins σ H s):X.env.locals < s.heap.objs.size:=let ⟨_,hn,_⟩:=I.loc; hn.lt
theorem Inv.sz (I:Inv X pins σ H s):X.s₀.heap.objs.size<=s.heap.objs.size:=Nat.le_trans I.ok.above (Nat.le_of_lt I.lt)
theorem Inv.Dh (I:Inv X pins σ H s) {a:Addr} (h:s.heap.objs.size<=a):a ∉ X.fs:=λhb=>by
 obtain ⟨_,o,ho,_⟩:=I.ok.iZ.mem hb
 exact absurd (Nat.lt_of_lt_of_le (Heap.lt_size ho) (Nat.le_trans I.sz h)) (Nat.lt_irrefl _)
theorem Inv.cne (I:Inv X pins σ H s):∀ x c,X.env.cells.lookup x=some c->c ≠ X.env.locals:=λx c e z=>by
 obtain ⟨v,o,ho,hd⟩:=I.cell x c e
 obtain ⟨m,⟨o',es,ep,ho',hd',_⟩,_⟩:=I.loc
 rw [z,ho'] at ho; cases ho; rw [hd'] at hd; cases hd
theorem Inv.iZ (I:Inv X pins σ H s):s.heap.FunFrames X.base X.outer:=by
 have all:∀ (l:List Env),(∀ b ∈ frs l,b ∈ X.fs)->X.s₀.heap.FunFrames X.base l->s.heap.FunFrames X.base l:=by
   intro l
   induction l with
   | nil=>intro _ _; trivial
   | cons env r ih=>
     intro hs hl
     obtain ⟨hk,⟨L,o,hf,hn,ho,hd⟩,hr⟩:=hl
     have hL:L ∈ X.fs:=hs L (by unfold frs; rw [List.filterMap_cons,hf]; exact List.mem_cons_self)
     obtain ⟨sl,e⟩:=I.base.slot L o ho (I.ok.frf L hL) hL λz=>I.ok.exfs L z hL
     exact ⟨hk,⟨L,_,hf,hn,e,hd⟩,ih (λb hb=>hs b (by unfold frs; rw [List.filterMap_cons,hf]; exact List.mem_cons_of_mem _ hb)) hr⟩
 exact all X.outer (λ_ hb=>hb) I.ok.iZ
theorem Inv.stack (I:Inv X pins σ H s):s.heap.FunFrames X.base X.stack:=by
 rcases I.ok.stk with e | ⟨e,hf⟩
 · rw [e]; exact I.iZ
 · rw [e]
   obtain ⟨m,hn,_⟩:=I.loc
   refine .cons (by rw [I.ok.kind]; decide) hf hn ?_ I.iZ
   exact Heap.get?_none_of_le (Nat.le_trans I.ok.bsz I.ok.above)
theorem Inv.kE (I:Inv X pins σ H s):∀ b ∈ frs X.stack,b ∈ X.env.locals :: X.fs:=λb hb=>by
 rcases I.ok.stk with e | ⟨e,hf⟩
 · rw [e] at hb; exact List.mem_cons_of_mem _ hb
 · rw [e] at hb
   unfold frs at hb
   rw [List.filterMap_cons,hf] at hb
   exact hb
theorem Inv.iw (I:Inv X pins σ H s):∀ b ∈ frs X.stack,H b=none:=λb hb=>by
 rcases List.mem_cons.mp (I.kE b hb) with e | hb
 · rw [e]; exact I.free
 · obtain ⟨_,o,ho,_⟩:=I.ok.iZ.mem hb
   exact I.base.free b o ho (I.ok.frf b hb) λz=>I.ok.exfs b z hb
theorem Inv.step {g':Array GenState} {t':Nat} {d':Drawn} {ch:List Addr} (I:Inv X pins σ H s)
   (hch:∀ b ∈ ch,(b ∈ X.ex\/X.s₀.heap.objs.size<=b)/\b ≠ X.env.locals/\(∀ x c,X.env.cells.lookup x=some c->c ≠ b)/\∀ p ∈ X.pn++pins,p.1 ≠ b)
   (keep:∀ b o,b ≠ X.env.locals->b ∉ X.fs->b ∉ ch->s.heap.get? b=some o->H b=none->h'.get? b=some o)
   (slot:∀ b o,b ≠ X.env.locals->b ∈ X.fs->b ∉ ch->s.heap.get? b=some o->H b=none->∃ sl,h'.get? b=some { o with slots:=sl }) (free:∀ b o,b ∉ ch->s.heap.get? b=some o->H b=none->H' b=none)
   (there:∀ b o,b ∉ ch->s.heap.get? b=some o->∃ o',h'.get? b=some o')
   (tups:∀ b xs,H b=some (.tup xs)->H' b=some (.tup xs)) (frzs:∀ b o u,H b=some (.frz o u)->H' b=some (.frz o u)) (tbls:∀ b ps,H b=some (.tbl ps)->∃ more,H' b=some (.tbl (ps++more)))
   (ns:∀ m,s.heap.Ns X.env.locals m->h'.Ns X.env.locals m) (hok:HOk X.prog X.w H' h') (hg:AllBare g') :
   Inv X pins σ H' { s with heap:=h',gens:=g',drawn:=d',toks:=t' }:=by
 have neL:∀ b o,X.s₀.heap.get? b=some o->b ≠ X.env.locals:=λb o e=>Nat.ne_of_lt (Nat.lt_of_lt_of_le (Heap.lt_size e) I.ok.above)
 have neC:∀ b o,X.s₀.heap.get? b=some o->b ∉ X.ex->b ∉ ch:=λb o e hx hb=>by
   rcases (hch b hb).1 with z | z
   · exact hx z
   · exact absurd (Nat.lt_of_lt_of_le (Heap.lt_size e) z) (Nat.lt_irrefl _)
 have cellK:∀ x c,X.env.cells.lookup x=some c->∀ v,s.heap.IsCell c v->h'.IsCell c v:=λx c e v ⟨o,ho,hd⟩=>by
   have nch:c ∉ ch:=λz=>(hch c z).2.2.1 x c e rfl
   by_cases hc:c ∈ X.fs
   · obtain ⟨sl,q⟩:=slot c o (I.cne x c e) hc nch ho (I.freeC x c e)
     exact ⟨_,q,hd⟩
   · exact ⟨o,keep c o (I.cne x c e) hc nch ho (I.freeC x c e),hd⟩
 refine ⟨I.ok,I.os,hg,⟨λb o e n hb hx=>?_,λb o e n hb hx=>?_,λb o e n hx=>?_,λb o e hx=>?_,λb xs e=>tups b xs (I.base.tups b xs e),λb o xs e=>frzs b o xs (I.base.frzs b o xs e),λb ps e=>?_⟩,?_,λx c e=>?_,?_,λx c e=>?_,λp hp=>?_,hok,I.len⟩
 · exact keep b o (neL b o e) hb (neC b o e hx) (I.base.keep b o e n hb hx) (I.base.free b o e n hx)
 · obtain ⟨sl,e1⟩:=I.base.slot b o e n hb hx
   obtain ⟨sl',e2⟩:=slot b _ (neL b o e) hb (neC b o e hx) e1 (I.base.free b o e n hx)
   exact ⟨sl',e2⟩
 · obtain ⟨o',e1⟩:=I.base.there b o e hx
   exact free b o' (neC b o e hx) e1 (I.base.free b o e n hx)
 · obtain ⟨o',e1⟩:=I.base.there b o e hx
   exact there b o' (neC b o e hx) e1
 · obtain ⟨m1,e1⟩:=I.base.tbls b ps e
   obtain ⟨m2,e2⟩:=tbls b _ e1
   exact ⟨m1++m2,by rw [e2,Array.append_assoc]⟩
 · obtain ⟨m,hn,hl⟩:=I.loc
   refine ⟨m,ns m hn,λi x v e1 e2 e3=>?_⟩
   obtain ⟨u,r,l⟩:=hl i x v e1 e2 e3
   refine ⟨u,r,?_⟩
   rcases l with l | ⟨k,c,e,z⟩
   · exact .inl l
   · exact .inr ⟨k,c,e,cellK x c e _ z⟩
 · obtain ⟨v,z⟩:=I.cell x c e
   exact ⟨v,cellK x c e v z⟩
 · obtain ⟨m,⟨o,_,_,ho,_⟩,_⟩:=I.loc
   exact free _ o (λz=>(hch _ z).2.1 rfl) ho I.free
 · obtain ⟨v,o,ho,hd⟩:=I.cell x c e
   exact free c o (λz=>(hch c z).2.2.1 x c e rfl) ho (I.freeC x c e)
 · obtain ⟨e,n,ne,nf,d⟩:=I.pin p hp
   have nch:p.1 ∉ ch:=λz=>(hch p.1 z).2.2.2 p hp rfl
   exact ⟨keep p.1 p.2 ne nf nch e n,free p.1 p.2 nch e n,ne,nf,d⟩
theorem Inv.un {t':Nat} (I:Inv X pins σ H s) (u:Un X.fs [] H H' s.heap h') (hok:HOk X.prog X.w H' h'):Inv X pins σ H' { s with heap:=h',toks:=t' }:=by
 obtain ⟨m,⟨o,es,ep,ho,r⟩,_⟩:=id I.loc
 obtain ⟨sl,hL⟩:=u.any ho I.free (by simp)
 exact I.step (g':=s.gens) (d':=s.drawn) (ch:=[]) (λ_ z=>nomatch z) (λb o _ hb _ e n=>u.keep b o e n hb (by simp)) (λb o _ hb _ e n=>u.slot b o e n hb (by simp)) (λb o _ e n=>u.free b o e n (by simp)) (λb o _ e=>u.there b o e (by simp)) u.tups u.frzs u.tbls (λm' hm=>by
   obtain ⟨o',es',ep',ho',r'⟩:=hm
   rw [ho] at ho'; cases ho'
   exact ⟨_,es',ep',hL,r'⟩) hok I.bare
theorem Inv.call {g':Array GenState} {t':Nat} {d':Drawn} {ch:List Addr} (I:Inv X pins σ H s) (u:Un (frs X.stack) ch H H' s.heap h') (hok:HOk X.prog X.w H' h') (hg:AllBare g')
   (hch:∀ b ∈ ch,(b ∈ X.ex\/X.s₀.heap.objs.size<=b)/\b ≠ X.env.locals/\(∀ x c,X.env.cells.lookup x=some c->c ≠ b)/\∀ p ∈ X.pn++pins,p.1 ≠ b) :
   Inv X pins σ H' { s with heap:=h',gens:=g',drawn:=d',toks:=t' }:=by
 obtain ⟨m,⟨o,es,ep,ho,r⟩,_⟩:=id I.loc
 obtain ⟨sl,hL⟩:=u.any ho I.free λz=>(hch _ z).2.1 rfl
 exact I.step (ch:=ch) hch (λb o hL hb hc e n=>u.keep b o e n (λz=>(List.mem_cons.mp (I.kE b z)).elim hL hb) hc) (λb o _ _ hc e n=>u.any e n hc) (λb o hc e n=>u.free b o e n hc) (λb o hc e=>u.there b o e hc) u.tups u.frzs u.tbls (λm' hm=>by
   obtain ⟨o',es',ep',ho',r'⟩:=hm
   rw [ho] at ho'; cases ho'
   exact ⟨_,es',ep',hL,r'⟩) hok hg
theorem Inv.turned {t':Nat} {it:Addr} (I:Inv X pins σ H s) (k:∀ b o,b ≠ it->s.heap.get? b=some o->h'.get? b=some o) (hn:H it=none) (hL:it ≠ X.env.locals)
   (h1:it ∈ X.ex\/X.s₀.heap.objs.size<=it) (h2:∀ x c,X.env.cells.lookup x=some c->c ≠ it) (h3:∀ p ∈ X.pn++pins,p.1 ≠ it):Inv X pins σ H { s with heap:=h',toks:=t' }:=by
 have nit:∀ b u,H b=some u->b ≠ it:=λb u e z=>by rw [z,hn] at e; cases e
 refine I.step (g':=s.gens) (d':=s.drawn) (ch:=[it]) (λb hb=>?_) (λb o _ _ hc e _=>k b o (λz=>hc (by simp [z])) e) (λb o _ _ hc e _=>⟨o.slots,k b o (λz=>hc (by simp [z])) e⟩) (λ_ _ _ _ n=>n)
   (λb o hc e=>⟨o,k b o (λz=>hc (by simp [z])) e⟩) (λ_ _ e=>e) (λ_ _ _ e=>e) (λb ps e=>⟨#[],by rw [e]; simp⟩) (λm hm=>?_) (λb u e=>?_) I.bare
 · have e:b=it:=by simpa using hb
   subst e
   exact ⟨h1,hL,h2,h3⟩
 · obtain ⟨o,es,ep,ho,r⟩:=hm
   exact ⟨o,es,ep,k _ o (Ne.symm hL) ho,r⟩
 · refine (I.hok b u e).fy (λc v hc q=>k c v ?_ q) (λ_ q=>q) λ_ _ q=>q
   rcases hc with z | z
   · rw [z]; exact nit b u e
   · exact nit c _ z
theorem Inv.tok (I:Inv X pins σ H s) (t:Nat):Inv X pins σ H { s with toks:=t }:=I.un (h':=s.heap) (t':=t) Un.refl I.hok
theorem Inv.kept {t':Nat} (I:Inv X pins σ H s) (k:∀ b u,s.heap.get? b=some u->h'.get? b=some u):Inv X pins σ H { s with heap:=h',toks:=t' }:=I.un (Un.kept k) (I.hok.kept k)
theorem Inv.laid {a:Addr} {o:HO} {t':Nat} (I:Inv X pins σ H s) (k:∀ b u,s.heap.get? b=some u->h'.get? b=some u) (hp:s.heap.objs.size<=a) (new:bR X.prog X.w (upd H a o) h' a o) :
   Inv X pins σ (upd H a o) { s with heap:=h',toks:=t' }:=I.un (Un.laid k hp (I.hok.fresh hp)) (I.hok.laid k hp new)
theorem Inv.write {x e:Addr} {o:HO} {t':Nat} (I:Inv X pins σ H s) (mu:Mut (H x)) (he:e=x\/H e=some (.own x)) (k:∀ b u,b ≠ e->s.heap.get? b=some u->h'.get? b=some u) (heo:∃ u,h'.get? e=some u)
   (new:bR X.prog X.w (upd H x o) h' x o):Inv X pins σ (upd H x o) { s with heap:=h',toks:=t' }:=I.un (Un.write mu he k heo) (I.hok.write mu he k heo new)
theorem Inv.qQ {pins':List (Addr × Obj)} (I:Inv X pins σ H s) (h:∀ p ∈ pins',s.heap.get? p.1=some p.2/\H p.1=none/\p.1 ≠ X.env.locals/\p.1 ∉ X.fs/\∀ v,p.2.data ≠ .cell v):Inv X pins' σ H s:=
 ⟨I.ok,I.os,I.bare,I.base,I.loc,I.cell,I.free,I.freeC,λp hp=>(List.mem_append.mp hp).elim (λz=>I.pin p (List.mem_append_left _ z)) (h p),I.hok,I.len⟩
theorem jP {N:List Str} (hN:N.Nodup) {i j:Nat} {x:Str} (a:N[i]?=some x) (b:N[j]?=some x):i=j:=by
 obtain ⟨h1,e1⟩:=List.getElem?_eq_some_iff.mp a
 obtain ⟨h2,e2⟩:=List.getElem?_eq_some_iff.mp b
 exact (List.getElem_inj hN).mp (e1.trans e2.symm)
theorem sX {M:Model} {A:Around} {E:Value->Shared->Prop} {i:Nat} {x:Str} {v:V} {u:Value} {Q:Unit->Shared->Prop} (I:Inv X pins σ H s) (hN:X.N.Nodup) (hi:X.N[i]?=some x) (hx:Loc X.env.scope x) (r:RelV v u)
   (h:∀ s',Inv X pins (σ.set i (some v)) H s'->(∃ a,Heap.SameBut a s.heap s'.heap/\(a=X.env.locals\/X.env.cells.lookup x=some a))->Q () s') (hf:X.fn x=true\/X.env.scope.names.lookup x=some .local:=by first | exact .inl rfl | exact .inr rfl | assumption):wpAny M A (storeName X.env x u) Q E s:=by
 obtain ⟨m,hn,hl⟩:=id I.loc
 have hcls:(X.env.scope.kind == .class || (X.env.scope.kind == .module && X.env.locals != X.env.globals))=false:=by rw [I.ok.kind]; rfl
 have hiσ:i < σ.length:=by rw [I.len]; exact (List.getElem?_eq_some_iff.mp hi).1
 have cne:=I.cne
 have tracked:∀ {a:Addr} {h':Heap},(∃ o,s.heap.get? a=some o/\H a=none)->Heap.SameBut a s.heap h'->HOk X.prog X.w H h':=λ{a h'} ha hs b ob e=>by
   obtain ⟨_,_,hfree⟩:=ha
   refine (I.hok b ob e).fy (λc w' hc q=>(hs.2 c ?_).trans q) (λ_ q=>q) λ_ _ q=>q
   rintro rfl
   rcases hc with rfl | hc
   · rw [hfree] at e; cases e
   · rw [hfree] at hc; cases hc
 rcases hx with hk | hk
 · refine wpAny_storeName_local hk hn (λh' hn' hs=>?_) hcls
   obtain ⟨oL,_,_,hoL,_⟩:=id hn
   refine h _ ⟨I.ok,I.os,I.bare,⟨λb o e n hb hx=>?_,λb o e n hb hx=>?_,I.base.free,λb o e hx=>?_,I.base.tups,I.base.frzs,I.base.tbls⟩,⟨_,hn',λj y v' e1 e2 e3=>?_⟩,λy c e=>?_,I.free,I.freeC,λp hp=>?_,tracked ⟨oL,hoL,I.free⟩ hs,by simpa using I.len⟩ ⟨_,hs,.inl rfl⟩
   · exact (hs.2 b (Nat.ne_of_lt (Nat.lt_of_lt_of_le (Heap.lt_size e) I.ok.above))).trans (I.base.keep b o e n hb hx)
   · obtain ⟨sl,e1⟩:=I.base.slot b o e n hb hx
     exact ⟨sl,(hs.2 b (Nat.ne_of_lt (Nat.lt_of_lt_of_le (Heap.lt_size e) I.ok.above))).trans e1⟩
   · obtain ⟨o',e1⟩:=I.base.there b o e hx
     exact ⟨o',(hs.2 b (Nat.ne_of_lt (Nat.lt_of_lt_of_le (Heap.lt_size e) I.ok.above))).trans e1⟩
   · by_cases hj:j=i
     · subst hj
       rw [hi] at e1; cases e1
       rw [List.getElem?_set_self hiσ] at e2
       cases e2
       exact ⟨u,r,.inl ⟨hk,by simp⟩⟩
     · rw [List.getElem?_set_ne (Ne.symm hj)] at e2
       obtain ⟨u',r',q⟩:=hl j y v' e1 e2 e3
       refine ⟨u',r',?_⟩
       rcases q with ⟨k,e⟩ | ⟨k,c,e,z⟩
       · refine .inl ⟨k,?_⟩
         have:y ≠ x:=λe=>hj (jP hN e1 (e ▸ hi))
         simp [this,e]
       · exact .inr ⟨k,c,e,z.sameBut hs (cne y c e)⟩
   · obtain ⟨w',z⟩:=I.cell y c e
     exact ⟨w',z.sameBut hs (cne y c e)⟩
   · obtain ⟨e,n,ne,nf,d⟩:=I.pin p hp
     exact ⟨(hs.2 p.1 ne).trans e,n,ne,nf,d⟩
 · have hfn:X.fn x=true:=by
     rcases hf with z | z
     · exact z
     · rw [z] at hk; cases hk
   obtain ⟨c,hc⟩:=I.ok.has x (.inl hk)
   obtain ⟨w',z⟩:=I.cell x c hc
   refine wpAny_storeName_cell I.ok.kind hk hc z (λh' hc' hs=>?_)
   obtain ⟨oc,hoc,hocd⟩:=id z
   refine h { s with heap:=h' } ⟨I.ok,I.os,I.bare,⟨λb o e n hb hx=>?_,λb o e n hb hx=>?_,I.base.free,λb o e hx=>?_,I.base.tups,I.base.frzs,I.base.tbls⟩,⟨m,hn.sameBut hs (Ne.symm (cne x c hc)),λj y v' e1 e2 e3=>?_⟩,λy c' e=>?_,I.free,I.freeC,λp hp=>?_,tracked ⟨oc,hoc,I.freeC x c hc⟩ hs,by simpa using I.len⟩ ⟨c,hs,.inr hc⟩
   · exact (hs.2 b (Nat.ne_of_lt (Nat.lt_of_lt_of_le (Heap.lt_size e) (I.ok.cab x c hfn hc)))).trans (I.base.keep b o e n hb hx)
   · obtain ⟨sl,e1⟩:=I.base.slot b o e n hb hx
     exact ⟨sl,(hs.2 b (Nat.ne_of_lt (Nat.lt_of_lt_of_le (Heap.lt_size e) (I.ok.cab x c hfn hc)))).trans e1⟩
   · obtain ⟨o',e1⟩:=I.base.there b o e hx
     exact ⟨o',(hs.2 b (Nat.ne_of_lt (Nat.lt_of_lt_of_le (Heap.lt_size e) (I.ok.cab x c hfn hc)))).trans e1⟩
   · by_cases hj:j=i
     · subst hj
       rw [hi] at e1; cases e1
       rw [List.getElem?_set_self hiσ] at e2
       cases e2
       exact ⟨u,r,.inr ⟨.inl hk,c,hc,hc'⟩⟩
     · rw [List.getElem?_set_ne (Ne.symm hj)] at e2
       obtain ⟨u',r',q⟩:=hl j y v' e1 e2 e3
       refine ⟨u',r',?_⟩
       rcases q with q | ⟨k,c',e,z'⟩
       · exact .inl q
       · refine .inr ⟨k,c',e,z'.sameBut hs ?_⟩
         rintro rfl
         exact hj (jP hN e1 (I.ok.inj _ _ _ e hc ▸ hi))
   · by_cases hcc:c'=c
     · subst hcc; exact ⟨_,hc'⟩
     · obtain ⟨w2,z2⟩:=I.cell y c' e
       exact ⟨w2,z2.sameBut hs hcc⟩
   · obtain ⟨e,n,ne,nf,d⟩:=I.pin p hp
     refine ⟨(hs.2 p.1 ?_).trans e,n,ne,nf,d⟩
     intro q
     rw [q,hoc] at e
     have q':oc=p.2:=Option.some.inj e
     exact d w' (by rw [<- q']; exact hocd)
theorem hX {M:Model} {A:Around} {E:Value->Shared->Prop} {i:Nat} {x:Str} {v:V} {u:Value} {Q:Unit->Shared->Prop} (I:Inv X pins σ H s) (hN:X.N.Nodup) (hi:X.N[i]?=some x) (hx:Loc X.env.scope x) (r:RelV v u)
   (h:∀ s',Inv X pins (σ.set i (some v)) H s'->Q () s') (hf:X.fn x=true\/X.env.scope.names.lookup x=some .local:=by first | exact .inl rfl | exact .inr rfl | assumption):wpAny M A (storeName X.env x u) Q E s:=
 sX I hN hi hx r (λs' I' _=>h s' I') hf
theorem Inv.l5 {s':Shared} {ch:List Addr} (I:Inv X pins σ H s) (ho:s'.os=s.os) (u:Un (frs X.stack) ch H H' s.heap s'.heap) (hok:HOk X.prog X.w H' s'.heap) (hg:AllBare s'.gens)
   (hch:∀ b ∈ ch,(b ∈ X.ex\/X.s₀.heap.objs.size<=b)/\b ≠ X.env.locals/\(∀ x c,X.env.cells.lookup x=some c->c ≠ b)/\∀ p ∈ X.pn++pins,p.1 ≠ b):Inv X pins σ H' s':=by
 obtain ⟨h',g',d',t',o'⟩:=s'
 have e:o'=s.os:=ho
 subst e
 exact I.call (g':=g') (t':=t') (d':=d') u hok hg hch
end
noncomputable abbrev XK:=Value->Option Addr->Hp->Prop
noncomputable abbrev St:=List (Option V)
noncomputable abbrev VK:=V->Hp->Prop
noncomputable abbrev TE:=St->Hp->VK->Prop
noncomputable abbrev TT:=St->Hp->(Bool->Hp->Prop)->Prop
noncomputable abbrev TA:=St->Hp->(List V->Hp->Prop)->Prop
structure Ends where
 nx:St->Hp->Prop
 rt:VK
 bk:St->Hp->Prop:=λ_ _=>False
 ct:St->Hp->Prop:=λ_ _=>False
noncomputable abbrev TS:=Ends->St->Hp->Prop
noncomputable def EP (X:Cx) (pins:List (Addr × Obj)) (σ:St) (Q:VK) (u:Value) (s':Shared):Prop:=∃ v H',Inv X pins σ H' s'/\RelV v u/\Q v H'
noncomputable def TP (X:Cx) (pins:List (Addr × Obj)) (σ:St) (Q:Bool->Hp->Prop) (b:Bool) (s':Shared):Prop:=∃ H',Inv X pins σ H' s'/\Q b H'
noncomputable def AP (X:Cx) (pins:List (Addr × Obj)) (σ:St) (Q:List V->Hp->Prop) (us:List Value) (s':Shared):Prop:=∃ vs H',Inv X pins σ H' s'/\Vals vs us/\Q vs H'
noncomputable def SP (X:Cx) (pins:List (Addr × Obj)) (D:Ends) (f:Flow) (s':Shared):Prop:=
 match f with
 | .next=>∃ σ' H',Inv X pins σ' H' s'/\D.nx σ' H'
 | .brk=>∃ σ' H',Inv X pins σ' H' s'/\D.bk σ' H'
 | .cont=>∃ σ' H',Inv X pins σ' H' s'/\D.ct σ' H'
 | .ret u=>∃ v σ' H',Inv X pins σ' H' s'/\RelV v u/\D.rt v H'
noncomputable def PE (X:Cx) (e:Expr) (t:TE):Prop:=
 ∀ (pins:List (Addr × Obj)) (s:Shared) (σ:St) (H:Hp) (Q:VK),Inv X pins σ H s->t σ H Q->wpAny (model X.prog X.w) X.A (eval e X.env) (EP X pins σ Q) X.xe s
noncomputable def PT (X:Cx) (e:Expr) (t:TT):Prop:=
 ∀ (pins:List (Addr × Obj)) (s:Shared) (σ:St) (H:Hp) (Q:Bool->Hp->Prop),Inv X pins σ H s->t σ H Q->wpAny (model X.prog X.w) X.A (isTrue e X.env (eval e X.env)) (TP X pins σ Q) X.xe s
noncomputable def PW (X:Cx) (e:Expr) (t:TT):Prop:=
 ∀ (whole:Sem Value) (pins:List (Addr × Obj)) (s:Shared) (σ:St) (H:Hp) (Q:Bool->Hp->Prop),Inv X pins σ H s->t σ H Q->wpAny (model X.prog X.w) X.A (isTrue e X.env whole) (TP X pins σ Q) X.xe s
theorem PW.pt {X:Cx} {e:Expr} {t:TT} (h:PW X e t):PT X e t:=h _
noncomputable def PA (X:Cx) (es:List Expr) (t:TA):Prop:=
 ∀ (pos:Pos) (pins:List (Addr × Obj)) (s:Shared) (σ:St) (H:Hp) (Q:List V->Hp->Prop),Inv X pins σ H s->t σ H Q->wpAny (model X.prog X.w) X.A (spliced (backTo pos (starEach es X.env))) (AP X pins σ Q) X.xe s
noncomputable def PS (X:Cx) (st:Stmt) (t:TS):Prop:=
 ∀ (pins:List (Addr × Obj)) (s:Shared) (σ:St) (H:Hp) (D:Ends),Inv X pins σ H s->t D σ H->wpAny (model X.prog X.w) X.A (exec st X.env) (SP X pins D) X.xe s
noncomputable def PSs (X:Cx) (st:List Stmt) (t:TS):Prop:=
 ∀ (pins:List (Addr × Obj)) (s:Shared) (σ:St) (H:Hp) (D:Ends),Inv X pins σ H s->t D σ H->wpAny (model X.prog X.w) X.A (execs st X.env) (SP X pins D) X.xe s
theorem thn {α:Type} {t:Sem α} {Q Q':α->Shared->Prop} {M:Model} {A:Around} {E:Value->Shared->Prop} {s:Shared} (h:wpAny M A t Q E s) (hQ:∀ a s,Q a s->Q' a s):wpAny M A t Q' E s:=wpAny_mono h hQ λ_ _ x=>x
section
variable {X:Cx}
theorem bin {a b:Expr} {ta tb:TE} (ha:PE X a ta) (hb:PE X b tb) {pins:List (Addr × Obj)} {s:Shared} {σ:St} {H:Hp} {R:V->V->Hp->Prop} (I:Inv X pins σ H s) (h:ta σ H λx H1=>tb σ H1 λy H2=>R x y H2)
   {α:Type} {Q:α->Shared->Prop} {f:Value->Value->Sem α}
   (hf:∀ v u s2 x y H2,Inv X pins σ H2 s2->RelV x v->RelV y u->R x y H2->wpAny (model X.prog X.w) X.A (f v u) Q X.xe s2) :
   wpAny (model X.prog X.w) X.A (eval a X.env) (λv s₁=>wpAny (model X.prog X.w) X.A (eval b X.env) (λu s₂=>wpAny (model X.prog X.w) X.A (f v u) Q X.xe s₂) X.xe s₁) X.xe s:=by
 refine thn (ha pins s σ H _ I h) λv s1 ⟨x,H1,I1,r1,q1⟩=>?_
 refine thn (hb pins s1 σ H1 _ I1 q1) λu s2 ⟨y,H2,I2,r2,q2⟩=>?_
 exact hf v u s2 x y H2 I2 r1 r2 q2
noncomputable def BL (i:Nat):TE:=λσ H Q=>∃ v,σ[i]?=some (some v)/\Q v H
noncomputable def tC (v:V):TE:=λ_ H Q=>Q v H
theorem bT {i:Nat} {x:Str} {pos:Pos} (hN:X.N[i]?=some x) (hv:Vis X.env.scope x) (hd:(x == ("__debug__" : Str))=false:=by decide) (hcd:(x == ("__classdict__" : Str))=false:=by decide):PE X (.Name x pos) (BL i):=by
 intro pins s σ H Q I h
 obtain ⟨v,e,h⟩:=h
 obtain ⟨m,hn,hl⟩:=I.loc
 obtain ⟨u,r,l⟩:=hl i x v hN e hv
 have fin:EP X pins σ Q u s:=⟨v,H,I,r,h⟩
 rcases l with ⟨hk,hm⟩ | ⟨hk,c,hc,hcell⟩
 · exact wpAny_Name (wpAny_loadName_local I.ok.kind hk hn hm fin) hd
 · rcases hk with hk | hk
   · exact wpAny_Name (wpAny_loadName_cell I.ok.kind hk hc hcell fin) hd
   · exact wpAny_Name (wpAny_loadName_free I.ok.kind hk hc hcell fin hcd) hd
theorem pN {i j pos}:PE X (.Constant (.int i) j pos) (tC (.int i)):=λ_ _ _ H _ I h=>wpAny_Constant_int ⟨.int i,H,I.tok _,⟨_,rfl⟩,h⟩
theorem BH {b j pos}:PE X (.Constant (.bool b) j pos) (tC (.bl b)):=λ_ _ _ H _ I h=>Constant_bool ⟨.bl b,H,I,rfl,h⟩
theorem zA {j pos}:PE X (.Constant .none j pos) (tC .non):=λ_ _ _ H _ I h=>Constant_none ⟨.non,H,I,rfl,h⟩
theorem yZ {x j pos}:PE X (.Constant (.str x) j pos) (tC (.str x)):=λ_ _ _ H _ I h=>Calls.Constant_str ⟨.str x,H,I.tok _,⟨_,rfl⟩,h⟩
noncomputable def Gl (X:Cx) (x:Str):Prop:=X.env.kindOf x=some .globalImplicit
theorem iH {E:Value->Shared->Prop} {pins:List (Addr × Obj)} {s:Shared} {σ:St} {H:Hp} {x:Str} {u:Value} {pos:Pos} {Q:Value->Shared->Prop} (I:Inv X pins σ H s) (hg:Gl X x) (hm:X.mg x=some u) (h:Q u s)
   (hd:(x == ("__debug__" : Str))=false:=by decide):wpAny (model X.prog X.w) X.A (eval (.Name x pos) X.env) Q E s:=
 Calls.Name_function_global I.ok.kind hg (Calls.loadGlobal_global (by rw [I.ok.glob]; exact I.mod.glob.keeps I.bk) hm h) hd
theorem eY {E:Value->Shared->Prop} {pins:List (Addr × Obj)} {s:Shared} {σ:St} {H:Hp} {x:Str} {u:Value} {pos:Pos} {Q:Value->Shared->Prop} (I:Inv X pins σ H s) (hg:Gl X x) (hm:X.mg x=none) (hv:bootBuiltins x=some u) (h:Q u s)
   (hn:x ≠ "__name__":=by decide) (hd:(x == ("__debug__" : Str))=false:=by decide):wpAny (model X.prog X.w) X.A (eval (.Name x pos) X.env) Q E s:=by
 obtain ⟨mb,h1,h2⟩:=I.mod.blt
 exact Calls.Name_function_global I.ok.kind hg (Calls.loadGlobal_builtin (by rw [I.ok.glob]; exact I.mod.glob.keeps I.bk) hm (by rw [I.ok.blt]; exact h1.keeps I.bk) ((h2 x hn).trans hv) h) hd
theorem nF {x:Str} {v:V} {u:Value} {pos:Pos} (hg:Gl X x) (hm:X.mg x=some u) (r:RelV v u) (hd:(x == ("__debug__" : Str))=false:=by decide):PE X (.Name x pos) (tC v):=
 λ_ _ _ H _ I h=>iH I hg hm ⟨v,H,I,r,h⟩ hd
theorem rJ {x:Str} {v:V} {u:Value} {pos:Pos} (hg:Gl X x) (hm:X.mg x=none) (hv:bootBuiltins x=some u) (r:RelV v u) (hn:x ≠ "__name__":=by decide) (hd:(x == ("__debug__" : Str))=false:=by decide):PE X (.Name x pos) (tC v):=
 λ_ _ _ H _ I h=>eY I hg hm hv ⟨v,H,I,r,h⟩ hn hd
variable {a b:Expr} {ta tb:TE} {pos:Pos}
noncomputable def PC (X:Cx) (op:CmpOp) (a b:Expr) (t:TE):Prop:=
 ∀ (pins:List (Addr × Obj)) (s:Shared) (σ:St) (H:Hp) (Q:VK),Inv X pins σ H s->t σ H Q ->
   wpAny (model X.prog X.w) X.A (eval a X.env) (λv s₁=>wpAny (model X.prog X.w) X.A (eval b X.env) (λu s₂=>wpAny (model X.prog X.w) X.A (compareOp op v u) (EP X pins σ Q) X.xe s₂) X.xe s₁) X.xe s
theorem tU (b:Expr) {op:CmpOp} (h:op ≠ .In) (h2:op ≠ .NotIn):behindInMarks op b=false:=by
 have e1:(op == CmpOp.In)=false:=by cases op <;> first | rfl | exact absurd rfl h
 have e2:(op == CmpOp.NotIn)=false:=by cases op <;> first | rfl | exact absurd rfl h2
 cases b <;> simp [behindInMarks,e1,e2]
noncomputable def tB (t:TE):TT:=λσ H Q=>t σ H λx H1=>∃ c,x=.bl c/\Q c H1
theorem DG {op:CmpOp} {t:TE} (h:PC X op a b t) (h1:behindInMarks op b=false:=by first | exact tU _ (by decide) (by decide) | rfl):PT X (.Compare a [op] [b] pos) (tB t):=by
 intro pins s σ H Q I hw
 refine wpAny_isTrue_Compare1 (thn (h pins s σ H _ I hw) λv s1 h1=>thn h1 λu s2 h2=>thn h2 λc s3 ⟨x,H1,I1,r1,q1⟩=>?_) h1
 obtain ⟨d,rfl,q⟩:=q1
 cases r1
 exact wpAny_truthy_bool ⟨H1,I1,q⟩
theorem Aa {e:Expr} {t:TE} (h:PE X e t) (he:∀ whole,isTrue e X.env whole=(do let v <- whole; standAt e.pos; holding [v] (truthy v)):=by intro _; rfl):PT X e (tB t):=by
 intro pins s σ H Q I hw
 refine isTrue_plain (thn (h pins s σ H _ I hw) λv s1 ⟨x,H1,I1,r1,q1⟩=>?_) (he _)
 obtain ⟨d,rfl,q⟩:=q1
 cases r1
 exact wpAny_truthy_bool ⟨H1,I1,q⟩
variable {tA tB':TT} {rest:List Expr}
noncomputable def tOr (t u:TT):TT:=λσ H Q=>t σ H λc H1=>if c=true then Q true H1 else u σ H1 Q
noncomputable def CV (t:TT):TT:=λσ H Q=>t σ H λc H1=>Q (!c) H1
theorem pw_or1 (ha:PT X a tA):PW X (.BoolOp .Or [a] pos) tA:=by
 intro wh pins s σ H Q I h
 refine isTrue_or (thn (ha pins s σ H Q I h) λc s1 e=>?_)
 cases c with
 | false=>exact isTrue_or_nil e
 | true=>exact e
theorem pw_or (ha:PT X a tA) (hb:PW X (.BoolOp .Or (b :: rest) pos) tB'):PW X (.BoolOp .Or (a :: b :: rest) pos) (tOr tA tB'):=by
 intro wh pins s σ H Q I h
 refine isTrue_or (thn (ha pins s σ H _ I h) λc s1 ⟨H1,I1,q1⟩=>?_)
 cases c with
 | true=>exact ⟨H1,I1,q1⟩
 | false=>exact hb wh pins s1 σ H1 Q I1 q1
theorem zw (ha:PT X a tA):PT X (.UnaryOp .Not a pos) (CV tA):=by
 intro pins s σ H Q I h
 exact isTrue_not (ha pins s σ H (λc H1=>Q (!c) H1) I h)
noncomputable def Cv (ta tb:TE):TE:=λσ H Q=>ta σ H λx H1=>∃ c,x=.bl c/\if c=true then tb σ H1 Q else Q (.bl false) H1
noncomputable def Cw (ta:TE):TE:=λσ H Q=>ta σ H λx H1=>∃ c,x=.bl c/\Q (.bl (!c)) H1
theorem zv {op} {t:TE} (h:PE X a t):PE X (.BoolOp op [a] pos) t:=λpins s σ H Q I hw=>BoolOp_one (h pins s σ H Q I hw)
theorem wg (ha:PE X a ta) (hb:PE X (.BoolOp .And (b :: rest) pos) tb):PE X (.BoolOp .And (a :: b :: rest) pos) (Cv ta tb):=by
 intro pins s σ H Q I h
 refine BoolOp_and (thn (ha pins s σ H _ I h) λv s1 ⟨x,H1,I1,r1,q1⟩=>?_)
 obtain ⟨c,rfl,q1⟩:=q1
 cases r1
 refine wpAny_truthy_bool ?_
 cases c with
 | true=>exact hb pins s1 σ H1 Q I1 q1
 | false=>exact ⟨.bl false,H1,I1,rfl,q1⟩
theorem Au (ha:PE X a ta):PE X (.UnaryOp .Not a pos) (Cw ta):=by
 intro pins s σ H Q I h
 refine UnaryOp_ (thn (ha pins s σ H _ I h) λv s1 ⟨x,H1,I1,r1,q1⟩=>?_)
 obtain ⟨c,rfl,q1⟩:=q1
 cases r1
 exact not_of (wpAny_truthy_bool ⟨.bl (!c),H1,I1,rfl,q1⟩)
end
noncomputable def SqL (K:PySem.W.Frag) (H:Hp) (a:Addr) (xs:List V):Prop:=
 Rd H a (.lst xs) \/
   ∃ (o:Obj) (its:Array Value) (n:Nat),K.lookup a=some o/\o.cls=.type "list" /\ o.dict=none/\o.data=.seq its n/\its.size<=sizeLine/\Vals xs its.toList
noncomputable def SqT (K:PySem.W.Frag) (H:Hp) (a:Addr) (xs:List V):Prop:=
 Rd H a (.tup xs) \/
   ∃ (o:Obj) (its:Array Value) (n:Nat),K.lookup a=some o/\o.cls=.type "tuple" /\ o.data=.seq its n/\its.size<=sizeLine/\Vals xs its.toList
noncomputable def CZ:Value->Option V
 | .none=>some .non
 | .bool b=>some (.bl b)
 | .int i _=>some (.int i)
 | .str x _=>some (.str x)
 | .bytes b _=>some (.byt b)
 | .float b _=>some (.flt b)
 | .ref a=>some (.ref a)
 | .type n=>some (.ty n)
 | _=>none
theorem RelV.abs {x:V} {u:Value} (r:RelV x u):CZ u=some x:=by
 cases x with
 | non=>cases r; rfl
 | bl _=>cases r; rfl
 | int _=>obtain ⟨t,rfl⟩:=r; rfl
 | str _=>obtain ⟨t,rfl⟩:=r; rfl
 | byt _=>obtain ⟨t,rfl⟩:=r; rfl
 | flt _=>obtain ⟨t,rfl⟩:=r; rfl
 | ref _=>cases r; rfl
 | ty _=>cases r; rfl
theorem RelV.inj {x y:V} {u:Value} (r:RelV x u) (q:RelV y u):x=y:=Option.some.inj (r.abs.symm.trans q.abs)
theorem Vals.inj:∀ {xs ys:List V} {us:List Value},Vals xs us->Vals ys us->xs=ys
 | _,_,_,.nil,.nil=>rfl
 | _,_,_,.cons r t,.cons r' t'=>by rw [r.inj r',Vals.inj t t']
section
variable {X:Cx} {pins:List (Addr × Obj)} {σ:St} {H:Hp} {s:Shared} {a:Addr} {xs ys:List V}
theorem SqL.of {K:PySem.W.Frag} (h:H a=some (.lst xs)):SqL K H a xs:=.inl (.inl h)
theorem SqT.of {K:PySem.W.Frag} (h:H a=some (.tup xs)):SqT K H a xs:=.inl (.inl h)
theorem Inv.list (I:Inv X pins σ H s) (h:SqL X.K H a xs):∃ its:List Value,Vals xs its/\PlainL s.heap a its.toArray/\xs.length<=sizeLine:=by
 rcases h with h | ⟨o,its,n,hk,hc,hd,hs,hz,r⟩
 · obtain ⟨z,its,n,r,e⟩:=h.ok I.hok
   exact ⟨its,r,⟨_,n,e,rfl,rfl,rfl⟩,z⟩
 · refine ⟨its.toList,r,⟨o,n,I.kIn a o hk,hc,hd,by simpa using hs⟩,?_⟩
   have e:=r.length
   simp only [Array.length_toList] at e
   omega
theorem Inv.tuple (I:Inv X pins σ H s) (h:SqT X.K H a xs):∃ its:List Value,Vals xs its/\IsTup s.heap a its.toArray/\xs.length<=sizeLine:=by
 rcases h with h | ⟨o,its,n,hk,hc,hs,hz,r⟩
 · obtain ⟨z,its,r,p⟩:=h.ok I.hok
   exact ⟨its,r,p,z⟩
 · refine ⟨its.toList,r,⟨o,I.kIn a o hk,hc,n,by simpa using hs⟩,?_⟩
   have e:=r.length
   simp only [Array.length_toList] at e
   omega
theorem Inv.iF (I:Inv X pins σ H s) (h:SqL X.K H a xs) (h':SqL X.K H a ys):xs=ys:=by
 obtain ⟨its,r,⟨o,n,e,_,_,d⟩,_⟩:=I.list h
 obtain ⟨its',r',⟨o',n',e',_,_,d'⟩,_⟩:=I.list h'
 rw [e] at e'; cases e'
 rw [d] at d'
 injection d' with d1 _
 have:its=its':=by simpa using congrArg Array.toList d1
 subst this
 exact r.inj r'
end
noncomputable abbrev Cx.je (X:Cx) (E:Value->Shared->Prop):Cx:={ X with xe:=E }
noncomputable abbrev Cx.nox (X:Cx):Cx:=X.je λ_ _=>False
theorem Cx.Ok.je {X:Cx} (ok:X.Ok) (E:Value->Shared->Prop):(X.je E).Ok:=
 ⟨ok.mod,ok.kind,ok.glob,ok.blt,ok.above,ok.inj,ok.has,ok.cab,ok.hd,ok.frames,ok.stk,ok.exf,ok.bs,ok.bsz,ok.noex,ok.exfs,ok.iZ,ok.frf⟩
theorem Cx.Ok.dB {X:Cx} {E:Value->Shared->Prop} (ok:(X.je E).Ok):X.Ok:=
 ⟨ok.mod,ok.kind,ok.glob,ok.blt,ok.above,ok.inj,ok.has,ok.cab,ok.hd,ok.frames,ok.stk,ok.exf,ok.bs,ok.bsz,ok.noex,ok.exfs,ok.iZ,ok.frf⟩
section
variable {X:Cx} {pins:List (Addr × Obj)} {σ:St} {H:Hp} {s:Shared} {E:Value->Shared->Prop}
theorem Inv.je (I:Inv X pins σ H s) (E:Value->Shared->Prop):Inv (X.je E) pins σ H s:=⟨I.ok.je E,I.os,I.bare,I.base,I.loc,I.cell,I.free,I.freeC,I.pin,I.hok,I.len⟩
theorem Inv.dB (I:Inv (X.je E) pins σ H s):Inv X pins σ H s:=⟨I.ok.dB,I.os,I.bare,I.base,I.loc,I.cell,I.free,I.freeC,I.pin,I.hok,I.len⟩
theorem SP.dB {D:Ends} {f:Flow} {s':Shared} (h:SP (X.je E) pins D f s'):SP X pins D f s':=by
 cases f with
 | next=>obtain ⟨σ',H',I,q⟩:=h; exact ⟨σ',H',I.dB,q⟩
 | brk=>obtain ⟨σ',H',I,q⟩:=h; exact ⟨σ',H',I.dB,q⟩
 | cont=>obtain ⟨σ',H',I,q⟩:=h; exact ⟨σ',H',I.dB,q⟩
 | ret u=>obtain ⟨v,σ',H',I,r,q⟩:=h; exact ⟨v,σ',H',I.dB,r,q⟩
theorem PE.nox {e:Expr} {t:TE} (h:PE X.nox e t):PE X e t:=λpins s σ H Q I hw=>
 wpAny_mono (h pins s σ H Q (I.je _) hw) (λ_ _ ⟨v,H',I',r,q⟩=>⟨v,H',I'.dB,r,q⟩) λ_ _ z=>False.elim z
theorem PT.nox {e:Expr} {t:TT} (h:PT X.nox e t):PT X e t:=λpins s σ H Q I hw=>
 wpAny_mono (h pins s σ H Q (I.je _) hw) (λ_ _ ⟨H',I',q⟩=>⟨H',I'.dB,q⟩) λ_ _ z=>False.elim z
theorem PSs.nox {st:List Stmt} {t:TS} (h:PSs X.nox st t):PSs X st t:=λpins s σ H D I hw=>
 wpAny_mono (h pins s σ H D (I.je _) hw) (λ_ _ q=>q.dB) λ_ _ z=>False.elim z
end
section
variable {X:Cx} {st:Stmt} {rest:List Stmt} {t u:TS} {e:Expr} {te:TE} {pos:Pos}
noncomputable def Bi:TS:=λD σ H=>D.nx σ H
noncomputable def DB (t u:TS):TS:=λD σ H=>t { D with nx:=u D } σ H
theorem jD:PSs X [] Bi:=λ_ _ σ H _ I h=>wpAny_execs_nil ⟨σ,H,I,h⟩
theorem ic (h1:PS X st t) (h2:PSs X rest u):PSs X (st :: rest) (DB t u):=by
 intro pins s σ H D I h
 refine wpAny_execs_cons (thn (h1 pins s σ H { D with nx:=u D } I h) λf s1 q=>?_)
 cases f with
 | next=>
   obtain ⟨σ',H',I',q⟩:=q
   exact h2 pins s1 σ' H' D I' q
 | ret v=>exact q
 | brk=>exact q
 | cont=>exact q
theorem xr (h1:PS X st t):PSs X [st] t:=by
 intro pins s σ H D I h
 refine wpAny_execs_cons (thn (h1 pins s σ H D I h) λf s1 q=>?_)
 cases f with
 | next=>exact wpAny_execs_nil q
 | ret v=>exact q
 | brk=>exact q
 | cont=>exact q
theorem Inv.quiet {pins:List (Addr × Obj)} {σ:St} {H:Hp} {s:Shared} (I:Inv X pins σ H s):interactive X.env=false:=by simp [interactive,I.ok.kind]
noncomputable def BK (te:TE):TS:=λD σ H=>te σ H λ_ H1=>D.nx σ H1
theorem gu (he:PE X e te) (hs:swapsWith e none pos.line X.env=pure false:=by rfl):PS X (.Expr e pos) (BK te):=by
 intro pins s σ H D I h
 exact wpAny_Expr_any (thn (he pins s σ H _ I h) λv s1 ⟨x,H1,I1,r1,q1⟩=>⟨σ,H1,I1,q1⟩) I.quiet hs
noncomputable def DL (te:TE):TS:=λD σ H=>te σ H D.rt
theorem kA (he:PE X e te):PS X (.Return (some e) pos) (DL te):=by
 intro pins s σ H D I h
 exact wpAny_Return_some (thn (he pins s σ H _ I h) λv s1 ⟨x,H1,I1,r1,q1⟩=>⟨x,σ,H1,I1,r1,q1⟩)
noncomputable def Dg (c:TT) (t u:TS):TS:=λD σ H=>c σ H λb H1=>if b=true then t D σ H1 else u D σ H1
theorem rP {c:Expr} {a b:List Stmt} {tc:TT} (hc:PT X c tc) (ha:PSs X a t) (hb:PSs X b u):PS X (.If c a b pos) (Dg tc t u):=by
 intro pins s σ H D I h
 refine wpAny_If (thn (hc pins s σ H _ I h) λd s1 ⟨H1,I1,q1⟩=>?_)
 cases d with
 | true=>exact ha pins s1 σ H1 D I1 q1
 | false=>exact hb pins s1 σ H1 D I1 q1
noncomputable def Al:TS:=λ_ _ _=>False
theorem iX {sts:List Stmt}:PSs X sts Al:=λ_ _ _ _ _ _ h=>h.elim
end
noncomputable abbrev TG:=V->St->Hp->(St->Hp->Prop)->Prop
noncomputable abbrev TGs:=List V->St->Hp->(St->Hp->Prop)->Prop
noncomputable def PG (X:Cx) (target:Expr) (t:TG):Prop:=
 ∀ (pins:List (Addr × Obj)) (s:Shared) (σ:St) (H:Hp) (v:V) (u:Value) (Q:St->Hp->Prop),Inv X pins σ H s->RelV v u->t v σ H Q ->
   wpAny (model X.prog X.w) X.A (assign target X.env u) (λ_ s'=>∃ σ' H',Inv X pins σ' H' s'/\Q σ' H') X.xe s
noncomputable def PGs (X:Cx) (ts:List Expr) (t:TGs):Prop:=
 ∀ (pins:List (Addr × Obj)) (s:Shared) (σ:St) (H:Hp) (vs:List V) (us:List Value) (Q:St->Hp->Prop),Inv X pins σ H s->Vals vs us->t vs σ H Q ->
   wpAny (model X.prog X.w) X.A (assignInOrder ((assignEach ts X.env).map (·.2)) us) (λ_ s'=>∃ σ' H',Inv X pins σ' H' s'/\Q σ' H') X.xe s
noncomputable abbrev yW:=V->V->V->Hp->(Hp->Prop)->Prop
noncomputable def B5 (X:Cx) (t:yW):Prop:=
 ∀ (pins:List (Addr × Obj)) (s:Shared) (σ:St) (H:Hp) (o i v:V) (ov iv u:Value) (Q:Hp->Prop),Inv X pins σ H s->RelV o ov->RelV i iv->RelV v u->t o i v H Q ->
   wpAny (model X.prog X.w) X.A (setItem ov iv u) (λ_ s'=>∃ H',Inv X pins σ H' s'/\Q H') X.xe s
section
variable {X:Cx} {pos:Pos}
noncomputable def yB (i:Nat):TG:=λv σ H Q=>Q (σ.set i (some v)) H
theorem cF {i:Nat} {x:Str} (hN:X.N.Nodup) (hi:X.N[i]?=some x) (hx:Loc X.env.scope x) (hf:X.fn x=true\/X.env.scope.names.lookup x=some .local:=by first | exact .inl rfl | exact .inr rfl | assumption):PG X (.Name x pos) (yB i):=by
 intro pins s σ H v u Q I r h
 exact wpAny_assign_Name (hX I hN hi hx r (λs' I'=>⟨_,H,I',h⟩) hf)
noncomputable def CY:TGs:=λvs σ H Q=>vs=[]/\Q σ H
noncomputable def BD (t:TG) (u:TGs):TGs:=λvs σ H Q=>∃ v r,vs=v :: r/\t v σ H λσ' H'=>u r σ' H' Q
theorem rK:PGs X [] CY:=by
 intro pins s σ H vs us Q I r h
 obtain ⟨e,h⟩:=h
 subst e
 cases r
 exact assignInOrder_nil ⟨σ,H,I,h⟩
theorem jW {e:Expr} {es:List Expr} {t:TG} {u:TGs} (h1:PG X e t) (h2:PGs X es u)
   (hs:(assignEach (e :: es) X.env).map (·.2)=assign e X.env :: (assignEach es X.env).map (·.2):=by rfl):PGs X (e :: es) (BD t u):=by
 intro pins s σ H vs us Q I r h
 obtain ⟨v,vr,e1,h⟩:=h
 subst e1
 cases r with
 | cons r rr=>
   rw [hs]
   refine assignInOrder_cons (thn (h1 pins s σ H _ _ _ I r h) λ_ s1 ⟨σ1,H1,I1,q1⟩=>?_)
   exact h2 pins s1 σ1 H1 _ _ Q I1 rr q1
noncomputable def Dv (K:PySem.W.Frag) (n:Nat) (t:TGs):TG:=λv σ H Q=>∃ a xs,v=.ref a/\SqT K H a xs/\xs.length=n/\t xs σ H Q
theorem wc {es:List Expr} {k:Nat} {t:TGs} {n:Nat} (hc:X.calm=true) (h:PGs X es t)
   (hn:(assignEach es X.env).length=n:=by rfl) (hst:(assignEach es X.env).findIdx? (·.1)=none:=by rfl):PG X (.Tuple es k pos) (Dv X.K n t):=by
 intro pins s σ H v u Q I r hw
 obtain ⟨a,xs,e1,hq,hl,hw⟩:=hw
 subst e1
 cases r
 obtain ⟨its,rv,ht,hz⟩:=I.tuple hq
 refine assign_Tuple_tuple (I.ok.hd hc) ht (by simp [hn,<- hl,rv.length]) hst λh' hx=>?_
 have I1:Inv X pins σ H { s with heap:=h' }:=I.kept (t':=s.toks) λb o e=>hx b o (Nat.ne_of_lt (Heap.lt_size e)) e
 exact h pins _ σ H xs _ Q I1 (by simpa using rv) hw
noncomputable def DA (to ti:TE) (t:yW):TG:=λv σ H Q=>to σ H λo H1=>ti σ H1 λi H2=>t o i v H2 λH3=>Q σ H3
theorem p9 {o i:Expr} {to ti:TE} {t:yW} (ho:PE X o to) (hi:PE X i ti) (hs:B5 X t)
   (ha:∀ v,assign (.Subscript o i pos) X.env v=(do
     let ov <- holding [v] (eval o X.env)
     let iv <- holding [v,ov] (eval i X.env)
     standAt pos
     holding [v,ov,iv] (setItem ov iv v)
     release [v,ov,iv] []):=by intro _; rfl):PG X (.Subscript o i pos) (DA to ti t):=by
 intro pins s σ H v u Q I r h
 rw [ha]
 refine wpAny_bind (wpAny_holding (thn (ho pins s σ H _ I h) λov s1 ⟨x,H1,I1,r1,q1⟩=>?_))
 refine wpAny_bind (wpAny_holding (thn (hi pins s1 σ H1 _ I1 q1) λiv s2 ⟨y,H2,I2,r2,q2⟩=>?_))
 refine wpAny_bind (wpAny_standAt (wpAny_bind (wpAny_holding (thn (hs pins s2 σ H2 x y v ov iv u _ I2 r1 r2 r q2) λ_ s3 ⟨H3,I3,q3⟩=>?_))))
 exact wpAny_release ⟨σ,H3,I3,q3⟩
noncomputable def zt (te:TE) (g:TG):TS:=λD σ H=>te σ H λx H1=>g x σ H1 D.nx
theorem mf {tg e:Expr} {te:TE} {g:TG} (he:PE X e te) (hg:PG X tg g) (hs:swapsWithSole [tg] e pos.line X.env=pure false:=by rfl) (hw:swappedStores [tg] e X.env=pure none:=by rfl)
   (h1:(assignEach [tg] X.env).map (·.2)=[assign tg X.env]:=by rfl):PS X (.Assign [tg] e pos) (zt te g):=by
 intro pins s σ H D I h
 refine wpAny_Assign_stores (thn (he pins s σ H _ I h) λv s1 ⟨x,H1,I1,r1,q1⟩=>?_) hs hw
 rw [h1]
 exact thn (hg pins s1 σ H1 x v _ I1 r1 q1) λ_ s2 q=>q
theorem uH {i:Nat} {x:Str} {e:Expr} {te:TE} {pos':Pos} (hN:X.N.Nodup) (hi:X.N[i]?=some x) (hx:Loc X.env.scope x) (he:PE X e te) (hs:swapsWith e (some (.Name x pos')) pos.line X.env=pure false:=by rfl) (hf:X.fn x=true\/X.env.scope.names.lookup x=some .local:=by first | exact .inl rfl | exact .inr rfl | assumption) :
   PS X (.Assign [.Name x pos'] e pos) (zt te (yB i)):=by
 intro pins s σ H D I h
 refine wpAny_Assign_Name (thn (he pins s σ H _ I h) λv s1 ⟨y,H1,I1,r1,q1⟩=>?_) hs
 exact hX I1 hN hi hx r1 (λs2 I2=>⟨_,H1,I2,q1⟩) hf
end
section
variable {X:Cx} {pos:Pos}
noncomputable def z9 (c:TT) (tb:TS):TS:=λD σ H=>∃ W:Nat->St->Hp->Prop,(∃ m,W m σ H)/\∀ m σ H,W m σ H ->
 c σ H λb H1=>if b=true then ∃ N:St->Hp->Prop,(∀ σ' H',N σ' H'->∃ m',m' < m/\W m' σ' H')/\tb { D with nx:=N,ct:=N,bk:=D.nx } σ H1 else D.nx σ H1
theorem ub {c:Expr} {body:List Stmt} {tc:TT} {tb:TS} (hp:PassesOwn (model X.prog X.w) X.A X.env X.xe) (hc:PT X c tc) (hb:PSs X body tb):PS X (.While c body [] pos) (z9 tc tb):=by
 intro pins s σ H D I h
 obtain ⟨W,⟨m0,w0⟩,turn⟩:=h
 refine wpAny_While (codeAny_whileLoop (λn s'=>∃ σ' H',Inv X pins σ' H' s'/\W n σ' H') ?_ m0 ⟨σ,H,I,w0⟩)
 rintro n s1 ⟨σ1,H1,I1,w1⟩
 refine wpAny_passesOwn hp (thn (hc pins s1 σ1 H1 _ I1 (turn n σ1 H1 w1)) λb s2 ⟨H2,I2,q2⟩=>?_)
 cases b with
 | true=>
   obtain ⟨N,hN,q2⟩:=q2
   rw [if_pos rfl]
   refine wpAny_passesOwn hp (thn (hb pins s2 σ1 H2 _ I2 q2) λf s3 q3=>?_)
   cases f with
   | next=>
     obtain ⟨σ3,H3,I3,n3⟩:=q3
     obtain ⟨m',hm,w3⟩:=hN σ3 H3 n3
     exact ⟨m',hm,σ3,H3,I3,w3⟩
   | cont=>
     obtain ⟨σ3,H3,I3,n3⟩:=q3
     obtain ⟨m',hm,w3⟩:=hN σ3 H3 n3
     exact ⟨m',hm,σ3,H3,I3,w3⟩
   | brk=>exact q3
   | ret v=>exact q3
 | false=>
   rw [if_neg Bool.false_ne_true]
   exact wpAny_execs_nil ⟨σ1,H2,I2,q2⟩
end
structure It where
 go:Nat->Hp->Prop
 yld:Nat->Hp->V->Hp->Prop
 stop:Nat->Hp->Prop
noncomputable def k8 (X:Cx) (pins:List (Addr × Obj)) (H:Hp) (b:Addr):Prop:=
 H b=none/\b ≠ X.env.locals/\b ∉ X.fs/\(b ∈ X.ex\/X.s₀.heap.objs.size<=b)/\(∀ x c,X.env.cells.lookup x=some c->c ≠ b)/\∀ p ∈ X.pn++pins,p.1 ≠ b
theorem Inv.oA {X:Cx} {pins:List (Addr × Obj)} {σ:St} {H H':Hp} {s:Shared} {b:Addr} (I:Inv X pins σ H s) (hb:s.heap.objs.size<=b) (hn:H' b=none):k8 X pins H' b:=by
 refine ⟨hn,Nat.ne_of_gt (Nat.lt_of_lt_of_le I.lt hb),I.Dh hb,.inr (Nat.le_trans I.sz hb),λx c e z=>?_,λp hp z=>?_⟩
 · obtain ⟨v,q⟩:=I.cell x c e
   exact absurd (Nat.lt_of_lt_of_le q.lt (by rw [z]; exact hb)) (Nat.lt_irrefl _)
 · exact absurd (Nat.lt_of_lt_of_le (Heap.lt_size (I.pin p hp).1) (by rw [z]; exact hb)) (Nat.lt_irrefl _)
noncomputable def DF (X:Cx):Prop:=∃ h o u vs,X.A.handled=some (.ref h)/\X.H₀ h=some (.frz o u)/\o.data=.fields vs/\vs[2]?=some .none
noncomputable def Ck (kd:Bool) (X:Cx):Prop:=X.calm=true\/(kd=true/\DF X)
theorem Ck.calm {X:Cx} (h:Ck false X):X.calm=true:=h.resolve_right λz=>nomatch z.1
structure Turn (P:Program) (w:World) (K:PySem.W.Frag) (kd:Bool) (tg:Expr) (J:It) (fp:List Addr) (it:Addr) (tn:Nat->Heap->Prop):Prop where
 mem:it ∈ fp
 obj:∀ i h,tn i h->∀ b ∈ fp,∃ o,h.get? b=some o/\∀ v,o.data ≠ .cell v
 keep:∀ i h h',tn i h->(∀ b ∈ fp,∀ o,h.get? b=some o->h'.get? b=some o)->tn i h'
 item:∀ (X:Cx),X.prog=P->X.w=w->X.K=K->Ck kd X->∀ (i:Nat) (pins:List (Addr × Obj)) (s:Shared) (σ:St) (H:Hp) (E:Value->Shared->Prop),Inv X pins σ H s->(∀ b ∈ fp,k8 X pins H b)->tn i s.heap->J.go i H ->
   wpAny (model P w) X.A (pyNext (.ref it)) (λr s1=>∃ u,r=some u /\
     wpAny (model P w) X.A (letOwnedTupleGo tg (.ref it) u) (λ_ s2=>∃ x H',Inv X pins σ H' s2/\RelV x u/\J.yld i H x H'/\tn (i + 1) s2.heap/\∀ b ∈ fp,H' b=none) E s1) E s
 done:∀ (X:Cx),X.prog=P->X.w=w->X.K=K->Ck kd X->∀ (i:Nat) (pins:List (Addr × Obj)) (s:Shared) (σ:St) (H:Hp) (E:Value->Shared->Prop),Inv X pins σ H s->(∀ b ∈ fp,k8 X pins H b)->tn i s.heap->J.stop i H ->
   wpAny (model P w) X.A (pyNext (.ref it)) (λr s1=>r=none/\Inv X pins σ H s1) E s
 self:∀ (A:Around) (i:Nat) (s:Shared) (Q:Value->Shared->Prop) (E:Value->Shared->Prop),tn i s.heap->Q (.ref it) s->wpAny (model P w) A (pyIter (.ref it)) Q E s
noncomputable abbrev TI:=St->Hp->(It->Hp->Prop)->Prop
noncomputable def PIE (X:Cx) (pins:List (Addr × Obj)) (σ:St) (tg:Expr) (R:It->Hp->Prop) (itv:Value) (s2:Shared):Prop:=
 ∃ (kd:Bool) (it:Addr) (fp:List Addr) (tn:Nat->Heap->Prop) (J:It) (H':Hp),itv=.ref it/\Inv X pins σ H' s2/\Ck kd X/\Turn X.prog X.w X.K kd tg J fp it tn/\tn 0 s2.heap/\(∀ b ∈ fp,k8 X pins H' b)/\R J H'
noncomputable def PI (X:Cx) (tg iter:Expr) (wi:TI):Prop:=
 ∀ (pins:List (Addr × Obj)) (s:Shared) (σ:St) (H:Hp) (R:It->Hp->Prop),Inv X pins σ H s->wi σ H R ->
   wpAny (model X.prog X.w) X.A (eval iter X.env) (λv s1=>wpAny (model X.prog X.w) X.A (pyIter v) (PIE X pins σ tg R) X.xe s1) X.xe s
theorem rb {M:Model} {A:Around} {E:Value->Shared->Prop} {s:Shared} {tg:Expr} {it:Addr} {u:Value} {o:Obj} {n:String} {vs:Array Value} {Q:Unit->Shared->Prop} (ho:s.heap.get? it=some o) (hc:o.cls=.type n) (hd:o.data=.fields vs)
   (hn:["enumerate","zip","dict_itemiterator","dict_reverseitemiterator","odict_iterator","itertools.zip_longest","itertools.pairwise"].contains n=false) (hQ:Q () s):wpAny M A (letOwnedTupleGo tg (.ref it) u) Q E s:=by
 unfold letOwnedTupleGo
 cases tg <;> first
   | exact wpAny_pure hQ
   | (cases u <;> first
       | exact wpAny_pure hQ
       | (refine wpAny_bind (wpAny_load ho ?_)
          rw [hc,hd]
          show wpAny M A (if (["enumerate","zip","dict_itemiterator","dict_reverseitemiterator","odict_iterator","itertools.zip_longest","itertools.pairwise"].contains n && vs[0]? == some (rawInt _))=true then _ else _) Q E s
          rw [if_neg (by intro h; rw [hn,Bool.false_and] at h; cases h)]
          exact wpAny_pure hQ))
noncomputable def Itl (K:PySem.W.Frag) (a:Addr):It:=
 ⟨λi H=>∃ xs x,SqL K H a xs/\xs[i]?=some x,λi H x H'=>H'=H/\∀ xs,SqL K H a xs->xs[i]?=some x,λi H=>∃ xs,SqL K H a xs/\xs.length<=i⟩
noncomputable def Itr (lo:Int) (n:Nat):It:=⟨λi _=>i < n,λi H x H'=>H'=H/\x=.int (lo + i),λi _=>n<=i⟩
theorem tJ {P:Program} {w:World} {K:PySem.W.Frag} {tg:Expr} (a it:Addr):Turn P w K false tg (Itl K a) [it] it (λi h=>h.IsListIter it a i) where
 mem:=by simp
 obj:=λi h st b hb=>by
   have e:b=it:=by simpa using hb
   subst e
   obtain ⟨o,e,c,d⟩:=st
   exact ⟨o,e,λv z=>by rw [d] at z; cases z⟩
 keep:=λi h h' st k=>st.at λo e=>k it (by simp) o e
 item:=by
   intro X hP hw hK hc i pins s σ H E I hf st hg
   subst hP hw hK
   obtain ⟨xs,x,hq,hx⟩:=hg
   obtain ⟨its,rv,p,hz⟩:=I.list hq
   obtain ⟨u,hu,ru⟩:=rv.get hx
   obtain ⟨f0,f1,f2,f3,f4,f5⟩:=hf it (by simp)
   refine wpAny_pyNext_list_item st p.isList (x:=u) (by simpa using hu) λh' st' sb=>?_
   have I1:Inv X pins σ H { s with heap:=h' }:=I.turned (t':=s.toks) (λb o hb e=>(sb.2 b hb).trans e) f0 f1 f3 f4 f5
   obtain ⟨o,e,c,d⟩:=id st'
   exact ⟨u,rfl,rb (s:={ s with heap:=h' }) e c d (by decide) ⟨x,H,I1,ru,⟨rfl,λys hy=>by rw [I.iF hy hq]; exact hx⟩,st',λb hb=>(hf b hb).1⟩⟩
 done:=by
   intro X hP hw hK hc i pins s σ H E I hf st hg
   subst hP hw hK
   obtain ⟨xs,hq,hx⟩:=hg
   obtain ⟨its,rv,p,hz⟩:=I.list hq
   obtain ⟨f0,f1,f2,f3,f4,f5⟩:=hf it (by simp)
   have hl:=rv.length
   exact wpAny_pyNext_list_end (I.ok.hd hc.calm) st p.isList (by simp; omega) λh' eb=>⟨rfl,I.turned (t':=s.toks) (λb o hb e=>eb b o hb e) f0 f1 f3 f4 f5⟩
 self:=λ_ _ _ _ _ st h=>wpAny_pyIter_listiter st h
theorem qF {P:Program} {w:World} {K:PySem.W.Frag} {tg:Expr} (it:Addr) (lo:Int) (n:Nat):Turn P w K true tg (Itr lo n) [it] it (λi h=>IsRangeIter h it (lo + (i:Nat) * 1) ((n:Int) - (i:Nat)) 1) where
 mem:=by simp
 obj:=λi h st b hb=>by
   have e:b=it:=by simpa using hb
   subst e
   exact ⟨_,st,λv z=>by
     have z':Data.fields _=Data.cell v:=z
     cases z'⟩
 keep:=λi h h' st k=>k it (by simp) _ st
 item:=by
   intro X hP hw hK hc i pins s σ H E I hf st hg
   subst hP hw hK
   obtain ⟨f0,f1,f2,f3,f4,f5⟩:=hf it (by simp)
   refine wpAny_pyNext_range_item st (by have:i < n:=hg; omega) λh' st0 sb=>?_
   have st':IsRangeIter h' it (lo + ((i + 1:Nat):Int) * 1) ((n:Int) - ((i + 1:Nat):Int)) 1:=by
     have e1:lo + ((i + 1:Nat):Int) * 1=lo + (i:Nat) * 1 + 1:=by omega
     have e2:(n:Int) - ((i + 1:Nat):Int)=(n:Int) - (i:Nat) - 1:=by omega
     rw [e1,e2]; exact st0
   have I1:Inv X pins σ H { s with heap:=h',toks:=s.toks + 1 }:=I.turned (λb o hb e=>(sb.2 b hb).trans e) f0 f1 f3 f4 f5
   refine ⟨_,rfl,rb (s:={ s with heap:=h',toks:=s.toks + 1 }) (n:="range_iterator") st' rfl rfl (by decide) ⟨.int (lo + i),H,I1,⟨s.toks,?_⟩,⟨rfl,rfl⟩,st',λb hb=>(hf b hb).1⟩⟩
   rw [Int.mul_one]
 done:=by
   intro X hP hw hK hc i pins s σ H E I hf st hg
   subst hP hw hK
   obtain ⟨f0,f1,f2,f3,f4,f5⟩:=hf it (by simp)
   rcases hc with hc | ⟨_,q,o,u,vs,e1,e2,e3,e4⟩
   · exact wpAny_pyNext_range_end (I.ok.hd hc) st (by have:n<=i:=hg; omega) λh' eb=>⟨rfl,I.turned (t':=s.toks) (λb o hb e=>eb b o hb e) f0 f1 f3 f4 f5⟩
   · have e5:=I.hok q _ (I.base.frzs q o u e2)
     exact Hx.qg e1 e5.1 e3 e4 st (by have:n<=i:=hg; omega) λh' eb=>⟨rfl,I.turned (t':=s.toks) (λb o hb e=>eb b o hb e) f0 f1 f3 f4 f5⟩
 self:=λ_ _ _ _ _ st h=>wpAny_pyIter_rangeiter st h
section
variable {X:Cx} {tg:Expr}
noncomputable def BA (K:PySem.W.Frag) (tl:TE):TI:=λσ H R=>tl σ H λx H1=>∃ a,x=.ref a/\(∃ xs,SqL K H1 a xs)/\R (Itl K a) H1
theorem rH {l:Expr} {tl:TE} (hc:X.calm=true) (hl:PE X l tl):PI X tg l (BA X.K tl):=by
 intro pins s σ H R I h
 refine thn (hl pins s σ H _ I h) λv s1 ⟨x,H1,I1,r1,q1⟩=>?_
 obtain ⟨a,e,⟨xs,hq⟩,q⟩:=q1
 subst e
 cases r1
 obtain ⟨its,rv,p,hz⟩:=I1.list hq
 refine wpAny_pyIter_list p.isList ?_
 refine ⟨false,s1.heap.objs.size,[s1.heap.objs.size],_,_,H1,rfl,I1.kept (t':=s1.toks) λb o e=>Heap.get?_push_of_some _ e,.inl hc,tJ a _,⟨_,Heap.get?_push_size _ rfl,rfl,rfl⟩,λb hb=>?_,q⟩
 have e:b=s1.heap.objs.size:=by simpa using hb
 subst e
 exact I1.oA (Nat.le_refl _) (I1.hok.fresh (Nat.le_refl _))
theorem oB {pins:List (Addr × Obj)} {σ:St} {H:Hp} {s:Shared} {R:It->Hp->Prop} {E:Value->Shared->Prop} {lo hi:Int} {t u v:Tok} {tk:Nat} (hc:Ck true X) (I:Inv X pins σ H s) (h1:-(2 ^ 62)<=lo) (h2:lo < 2 ^ 62) (h3:-(2 ^ 62)<=hi) (h4:hi < 2 ^ 62)
   (q:R (Itr lo (hi - lo).toNat) H):wpAny (model X.prog X.w) X.A (pyIter (.ref s.heap.objs.size)) (PIE X pins σ tg R) E { s with heap:=s.heap.push { cls:=.type "range",data:=.fields #[.int lo t,.int hi u,.int 1 v] },toks:=tk }:=by
 refine wpAny_pyIter_range (IsRange.new ..) (small_one h1 h2 h3 h4) ?_
 have I1:Inv X pins σ H { s with heap:=s.heap.push { cls:=.type "range",data:=.fields #[.int lo t,.int hi u,.int 1 v] },toks:=tk }:=I.kept λb o e=>Heap.get?_push_of_some _ e
 refine ⟨true,(s.heap.push { cls:=.type "range",data:=.fields #[.int lo t,.int hi u,.int 1 v] }).objs.size,[(s.heap.push { cls:=.type "range",data:=.fields #[.int lo t,.int hi u,.int 1 v] }).objs.size],_,_,H,rfl,
   I1.kept (t':=tk) λb o e=>Heap.get?_push_of_some _ e,hc,qF _ lo (hi - lo).toNat,?_,λb hb=>?_,q⟩
 · have e1:lo + ((0:Nat):Int) * 1=lo:=by simp
   have e2:(((hi - lo).toNat:Nat):Int) - ((0:Nat):Int)=Builtin.Range.rangeSize lo hi 1:=by rw [rangeSize_one]; split <;> omega
   show IsRangeIter _ _ (lo + ((0:Nat):Int) * 1) ((((hi - lo).toNat:Nat):Int) - ((0:Nat):Int)) 1
   rw [e1,e2]
   exact Heap.get?_push_size _ rfl
 · have e:b=(s.heap.push { cls:=.type "range",data:=.fields #[.int lo t,.int hi u,.int 1 v] }).objs.size:=by simpa using hb
   subst e
   exact I1.oA (Nat.le_refl _) (I1.hok.fresh (Nat.le_refl _))
noncomputable def Bf (ta:TA):TI:=λσ H R=>ta σ H λvs H1=>∃ j:Int,vs=[.int j]/\-(2 ^ 62)<=j/\j < 2 ^ 62/\R (Itr 0 j.toNat) H1
noncomputable def BM (ta:TA):TI:=λσ H R=>ta σ H λvs H1=>∃ i j:Int,vs=[.int i,.int j]/\(-(2 ^ 62)<=i/\i < 2 ^ 62/\-(2 ^ 62)<=j/\j < 2 ^ 62)/\R (Itr i (j - i).toNat) H1
theorem lU {a:Expr} {ta:TA} {p pos:Pos} (hc:Ck true X) (hg:Gl X "range") (hm:X.mg "range" = none) (ha:PA X [a] ta) (hs:starEach [a] X.env=[(false,eval a X.env)]:=by rfl):PI X tg (.Call (.Name "range" p) [a] [] pos) (Bf ta):=by
 intro pins s σ H R I h
 refine Call_ (eY I hg hm boot_range (PyProof.Rows.callWith_type1 (thn (ha pos pins s σ H _ I h) λus s1 ⟨vs,H1,I1,r1,q1⟩=>?_) hs rfl))
 obtain ⟨j,e,q1,q2,q⟩:=q1
 subst e
 cases r1 with
 | cons r rr=>
   cases rr
   obtain ⟨t,rfl⟩:=r
   exact call_range_1 (oB hc I1 (by omega) (by omega) q1 q2 (by simpa using q))
theorem sZ {a b:Expr} {ta:TA} {p pos:Pos} (hc:Ck true X) (hg:Gl X "range") (hm:X.mg "range" = none) (ha:PA X [a,b] ta) (hs:starEach [a,b] X.env=[(false,eval a X.env),(false,eval b X.env)]:=by rfl) (hs2:starEach [b] X.env=[(false,eval b X.env)]:=by rfl) :
   PI X tg (.Call (.Name "range" p) [a,b] [] pos) (BM ta):=by
 intro pins s σ H R I h
 refine Call_ (eY I hg hm boot_range (PyProof.Rows.callWith_type1 (thn (ha pos pins s σ H _ I h) λus s1 ⟨vs,H1,I1,r1,q1⟩=>?_) (by rw [hs,hs2]) (by rw [hs2]; rfl)))
 obtain ⟨i,j,e,⟨q1,q2,q3,q4⟩,q⟩:=q1
 subst e
 cases r1 with
 | cons r rr=>
   cases rr with
   | cons r' rr=>
     cases rr
     obtain ⟨t,rfl⟩:=r
     obtain ⟨t',rfl⟩:=r'
     exact call_range_2 (oB hc I1 q1 q2 q3 q4 q)
noncomputable def DC (wi:TI) (g:TG) (tb:TS):TS:=λD σ H=>wi σ H λJ H1=>∃ W:Nat->Nat->St->Hp->Prop,(∃ m,W 0 m σ H1)/\∀ i m σ H,W i m σ H ->
 (J.stop i H/\D.nx σ H)\/(J.go i H/\∃ N:St->Hp->Prop,(∀ σ' H',N σ' H'->∃ m',m' < m/\W (i + 1) m' σ' H')/\∀ x H',J.yld i H x H'->g x σ H' λσ2 H2=>tb { D with nx:=N,ct:=N,bk:=D.nx } σ2 H2)
noncomputable def gR (fp:List Addr) (h:Heap):List (Addr × Obj):=fp.filterMap λb=>(h.get? b).map λo=>(b,o)
theorem bY {fp:List Addr} {h:Heap} {b:Addr} {o:Obj} (hb:b ∈ fp) (e:h.get? b=some o):(b,o) ∈ gR fp h:=List.mem_filterMap.mpr ⟨b,hb,by rw [e]; rfl⟩
theorem tE {fp:List Addr} {h:Heap} {p:Addr × Obj} (hp:p ∈ gR fp h):p.1 ∈ fp/\h.get? p.1=some p.2:=by
 obtain ⟨b,hb,e⟩:=List.mem_filterMap.mp hp
 cases q:h.get? b with
 | none=>rw [q] at e; cases e
 | some o=>
   rw [q] at e
   have e':(b,o)=p:=Option.some.inj e
   subst e'
   exact ⟨hb,q⟩
theorem Inv.pinned {pins:List (Addr × Obj)} {σ:St} {H:Hp} {s:Shared} {fp:List Addr} (I:Inv X pins σ H s) (hf:∀ b ∈ fp,k8 X pins H b) (ho:∀ b ∈ fp,∃ o,s.heap.get? b=some o/\∀ v,o.data ≠ .cell v):Inv X (pins++gR fp s.heap) σ H s:=
 I.qQ λp hp=>(List.mem_append.mp hp).elim (λz=>I.pin p (List.mem_append_right _ z)) λz=>by
   obtain ⟨hb,e⟩:=tE z
   obtain ⟨f0,f1,f2,_⟩:=hf p.1 hb
   obtain ⟨o,e',d⟩:=ho p.1 hb
   rw [e] at e'; cases e'
   exact ⟨e,f0,f1,f2,d⟩
theorem Inv.eA {pins pl:List (Addr × Obj)} {σ:St} {H:Hp} {s:Shared} (I:Inv X (pins++pl) σ H s):Inv X pins σ H s:=I.qQ λp hp=>I.pin p (List.mem_append_right _ (List.mem_append_left _ hp))
theorem qj {iter:Expr} {body:List Stmt} {wi:TI} {g:TG} {tb:TS} {pos:Pos} (hp:PassesOwn (model X.prog X.w) X.A X.env X.xe) (hi:PI X tg iter wi) (hg:PG X tg g) (hb:PSs X body tb)
   (hs:∀ x,foldedSetIterable iter X.env x=pure x:=by intro _; rfl):PS X (.For tg iter body [] pos) (DC wi g tb):=by
 intro pins s σ H D I h
 refine wpAny_For (thn (hi pins s σ H _ I h) λv s1 h1=>thn h1 λitv s2 h2=>?_) hs
 obtain ⟨kd,it,fp,tn,J,H2,e,I2,hc,T,st2,f2,W,⟨m0,w0⟩,turn⟩:=h2
 subst e
 have stat:∀ {H':Hp},(∀ b ∈ fp,H' b=none)->∀ b ∈ fp,k8 X pins H' b:=λhn b hb=>⟨hn b hb,(f2 b hb).2⟩
 refine codeAny_forLoop_any (λn s'=>∃ i σ' H',Inv X pins σ' H' s'/\tn i s'.heap/\(∀ b ∈ fp,H' b=none)/\W i n σ' H') ?_ m0 ⟨0,σ,H2,I2,st2,λb hb=>(f2 b hb).1,w0⟩
 rintro n s3 ⟨i,σ3,H3,I3,st3,fr3,w3⟩
 rcases turn i n σ3 H3 w3 with ⟨stop,qn⟩ | ⟨go,N,hN,step⟩
 · refine wpAny_passesOwn hp (thn (T.done X rfl rfl rfl hc i pins s3 σ3 H3 X.xe I3 (stat fr3) st3 stop) λr s4 ⟨hr,I4⟩=>?_)
   subst hr
   exact wpAny_execs_nil ⟨σ3,H3,I4,qn⟩
 · refine wpAny_passesOwn hp (thn (T.item X rfl rfl rfl hc i pins s3 σ3 H3 X.xe I3 (stat fr3) st3 go) λr s4 ⟨u,hr,h4⟩=>?_)
   subst hr
   refine wpAny_passesOwn hp (thn h4 λ_ s5 ⟨x,H5,I5,r5,y5,st5,fr5⟩=>?_)
   have I5':=I5.pinned (stat fr5) (T.obj _ _ st5)
   refine wpAny_passesOwn hp (thn (hg _ s5 σ3 H5 x u _ I5' r5 (step x H5 y5)) λ_ s6 ⟨σ6,H6,I6,q6⟩=>?_)
   refine wpAny_passesOwn hp (thn (hb _ s6 σ6 H6 _ I6 q6) λf s7 q7=>?_)
   have again:∀ {σ7:St} {H7:Hp},Inv X (pins++gR fp s5.heap) σ7 H7 s7->N σ7 H7->∃ m,m < n/\∃ i σ' H',Inv X pins σ' H' s7/\tn i s7.heap/\(∀ b ∈ fp,H' b=none)/\W i m σ' H':=λ{σ7 H7} I7 n7=>by
     obtain ⟨m',hm,w7⟩:=hN σ7 H7 n7
     refine ⟨m',hm,i + 1,σ7,H7,I7.eA,T.keep _ _ _ st5 λb hb o e=>(I7.pin (b,o) (List.mem_append_right _ (List.mem_append_right _ (bY hb e)))).1,λb hb=>?_,w7⟩
     obtain ⟨o,e,d⟩:=T.obj _ _ st5 b hb
     exact (I7.pin (b,o) (List.mem_append_right _ (List.mem_append_right _ (bY hb e)))).2.1
   cases f with
   | next=>obtain ⟨σ7,H7,I7,n7⟩:=q7; exact again I7 n7
   | cont=>obtain ⟨σ7,H7,I7,n7⟩:=q7; exact again I7 n7
   | brk=>obtain ⟨σ7,H7,I7,q7⟩:=q7; exact ⟨σ7,H7,I7.eA,q7⟩
   | ret v=>obtain ⟨x7,σ7,H7,I7,r7,q7⟩:=q7; exact ⟨x7,σ7,H7,I7.eA,r7,q7⟩
end
noncomputable abbrev R2:=V->V->Hp->VK->Prop
noncomputable def OpR (X:Cx) (f:Value->Value->Sem Value) (r:R2):Prop:=
 ∀ (pins:List (Addr × Obj)) (s:Shared) (σ:St) (H:Hp) (x y:V) (v u:Value) (Q:VK),Inv X pins σ H s->RelV x v->RelV y u->r x y H Q ->
   wpAny (model X.prog X.w) X.A (f v u) (EP X pins σ Q) X.xe s
noncomputable def UnR (X:Cx) (f:Value->Sem Value) (r:V->Hp->VK->Prop):Prop:=
 ∀ (pins:List (Addr × Obj)) (s:Shared) (σ:St) (H:Hp) (x:V) (v:Value) (Q:VK),Inv X pins σ H s->RelV x v->r x H Q ->
   wpAny (model X.prog X.w) X.A (f v) (EP X pins σ Q) X.xe s
noncomputable def fF (X:Cx) (f:Value) (r:List V->Hp->VK->Prop):Prop:=
 ∀ (pins:List (Addr × Obj)) (s:Shared) (σ:St) (H:Hp) (xs:List V) (us:List Value) (Q:VK),Inv X pins σ H s->Vals xs us->r xs H Q ->
   wpAny (model X.prog X.w) X.A (call f us) (EP X pins σ Q) X.xe s
noncomputable def tOp (r:R2) (ta tb:TE):TE:=λσ H Q=>ta σ H λx H1=>tb σ H1 λy H2=>r x y H2 Q
noncomputable def tUn (r:V->Hp->VK->Prop) (ta:TE):TE:=λσ H Q=>ta σ H λx H1=>r x H1 Q
noncomputable def rI (C:Int->Int->Prop) (g:Int->Int->V):R2:=λx y H Q=>∃ i j,x=.int i/\y=.int j/\C i j/\Q (g i j) H
noncomputable def rI0 (g:Int->Int->V):R2:=λx y H Q=>∃ i j,x=.int i/\y=.int j/\Q (g i j) H
noncomputable def rU (g:Int->V):V->Hp->VK->Prop:=λx H Q=>∃ i,x=.int i/\Q (g i) H
section
variable {X:Cx} {a b c:Expr} {ta tb tc:TE} {pos:Pos}
theorem AO (ha:PE X a ta) (hb:PE X b tb) {pins:List (Addr × Obj)} {s:Shared} {σ:St} {H:Hp} {R:V->V->Hp->Prop} (I:Inv X pins σ H s)
   (h:ta σ H λx H1=>tb σ H1 λy H2=>R x y H2) {Q:Value->Shared->Prop} {f:Value->Value->Sem Value}
   (hf:∀ v u s2 x y H2,Inv X pins σ H2 s2->RelV x v->RelV y u->R x y H2->wpAny (model X.prog X.w) X.A (f v u) Q X.xe s2) :
   wpAny (model X.prog X.w) X.A (eval a X.env) (λv s₁=>wpAny (model X.prog X.w) X.A (eval b X.env) (λu s₂=>wpAny (model X.prog X.w) X.A (f v u) Q X.xe s₂) X.xe s₁) X.xe s:=by
 refine thn (ha pins s σ H _ I h) λv s1 ⟨x,H1,I1,r1,q1⟩=>?_
 refine thn (hb pins s1 σ H1 _ I1 q1) λu s2 ⟨y,H2,I2,r2,q2⟩=>?_
 exact hf v u s2 x y H2 I2 r1 r2 q2
theorem vB {op:Operator} {r:R2} (ho:OpR X (binaryOp op) r) (ha:PE X a ta) (hb:PE X b tb):PE X (.BinOp a op b pos) (tOp r ta tb):=by
 intro pins s σ H Q I h
 exact wpAny_BinOp (AO ha hb I h λv u s2 x y H2 I2 rx ry q=>ho pins s2 σ H2 x y v u Q I2 rx ry q)
theorem CC {op:UnaryOp} {r:V->Hp->VK->Prop} (ho:UnR X (unaryOp op) r) (ha:PE X a ta):PE X (.UnaryOp op a pos) (tUn r ta):=by
 intro pins s σ H Q I h
 exact UnaryOp_ (thn (ha pins s σ H _ I h) λv s1 ⟨x,H1,I1,r1,q1⟩=>ho pins s1 σ H1 x v Q I1 r1 q1)
theorem opI {f:Value->Value->Sem Value} {C:Int->Int->Prop} {g:Int->Int->Int}
   (rule:∀ (i j:Int) (t u:Tok) (s:Shared) (Q:Value->Shared->Prop) (E:Value->Shared->Prop),C i j->Q (.int (g i j) s.toks) { s with toks:=s.toks + 1 }->wpAny (model X.prog X.w) X.A (f (.int i t) (.int j u)) Q E s) :
   OpR X f (rI C λi j=>.int (g i j)):=by
 intro pins s σ H x y v u Q I rx ry h
 obtain ⟨i,j,rfl,rfl,hc,q⟩:=h
 obtain ⟨t,rfl⟩:=rx
 obtain ⟨t',rfl⟩:=ry
 exact rule i j t t' s _ _ hc ⟨.int (g i j),H,I.tok _,⟨_,rfl⟩,q⟩
theorem wG {f:Value->Value->Sem Value} {g:Int->Int->Int}
   (rule:∀ (i j:Int) (t u:Tok) (s:Shared) (Q:Value->Shared->Prop) (E:Value->Shared->Prop),Q (.int (g i j) s.toks) { s with toks:=s.toks + 1 }->wpAny (model X.prog X.w) X.A (f (.int i t) (.int j u)) Q E s) :
   OpR X f (rI0 λi j=>.int (g i j)):=by
 intro pins s σ H x y v u Q I rx ry h
 obtain ⟨i,j,rfl,rfl,q⟩:=h
 obtain ⟨t,rfl⟩:=rx
 obtain ⟨t',rfl⟩:=ry
 exact rule i j t t' s _ _ ⟨.int (g i j),H,I.tok _,⟨_,rfl⟩,q⟩
theorem xg {f:Value->Value->Sem Value} {g:Int->Int->Bool}
   (rule:∀ (i j:Int) (t u:Tok) (s:Shared) (Q:Value->Shared->Prop) (E:Value->Shared->Prop),Q (.bool (g i j)) s->wpAny (model X.prog X.w) X.A (f (.int i t) (.int j u)) Q E s) :
   OpR X f (rI0 λi j=>.bl (g i j)):=by
 intro pins s σ H x y v u Q I rx ry h
 obtain ⟨i,j,rfl,rfl,q⟩:=h
 obtain ⟨t,rfl⟩:=rx
 obtain ⟨t',rfl⟩:=ry
 exact rule i j t t' s _ _ ⟨.bl (g i j),H,I,rfl,q⟩
noncomputable def xS (i j:Int):Prop:=0<=j/\j<=1000000/\i.natAbs < 2 ^ 64
theorem qG (k:Nat):(0:Int)<=2 ^ k:=by
 rw [two_pow_cast]
 exact Int.natCast_nonneg _
theorem yU:OpR X (binaryOp .Add) (rI0 λi j=>.int (i + j)):=wG λ_ _ _ _ _ _ _ q=>add_int q
theorem zj:OpR X (binaryOp .Sub) (rI0 λi j=>.int (i - j)):=wG λ_ _ _ _ _ _ _ q=>sub_int q
theorem xm:OpR X (binaryOp .Mod) (rI (λ_ j=>j ≠ 0) λi j=>.int (i.fmod j)):=opI λ_ _ _ _ _ _ _ hc q=>mod_int' hc q
theorem zz:OpR X (binaryOp .Pow) (rI xS λi j=>.int (i ^ j.toNat)):=opI λ_ _ _ _ _ _ _ hc q=>pow_int_small hc.1 hc.2.1 hc.2.2 q
theorem zg:OpR X (binaryOp .LShift) (rI xS λi j=>.int (i * 2 ^ j.toNat)):=opI λ_ _ _ _ _ _ _ hc q=>lshift_int_small hc.1 hc.2.1 hc.2.2 q
theorem zf:OpR X (binaryOp .RShift) (rI (λ_ j=>0<=j) λi j=>.int (i / 2 ^ j.toNat)):=opI λi j _ _ _ _ _ hc q=>
 rshift_int hc (by rw [Int.fdiv_eq_ediv_of_nonneg i (qG _)]; exact q)
theorem zp:OpR X (binaryOp .BitAnd) (rI0 λi j=>.int (Builtin.bitAnd i j)):=wG λ_ _ _ _ _ _ _ q=>and_int q
theorem AZ:OpR X (binaryOp .BitOr) (rI0 λi j=>.int (Builtin.bitOr i j)):=wG λ_ _ _ _ _ _ _ q=>or_int q
theorem unI {f:Value->Sem Value} {g:Int->Int}
   (rule:∀ (i:Int) (t:Tok) (s:Shared) (Q:Value->Shared->Prop) (E:Value->Shared->Prop),Q (.int (g i) s.toks) { s with toks:=s.toks + 1 }->wpAny (model X.prog X.w) X.A (f (.int i t)) Q E s) :
   UnR X f (rU λi=>.int (g i)):=by
 intro pins s σ H x v Q I rx h
 obtain ⟨i,rfl,q⟩:=h
 obtain ⟨t,rfl⟩:=rx
 exact rule i t s _ _ ⟨.int (g i),H,I.tok _,⟨_,rfl⟩,q⟩
theorem Ar:UnR X (unaryOp .USub) (rU λi=>.int (-i)):=unI λ_ _ _ _ _ q=>neg_int q
end
noncomputable def Cf:V->V->Bool
 | .non,.non=>true | .non,.int _=>true | .int _,.non=>true | .non,.bl _=>true | .bl _,.non=>true | .non,.str _=>true | .str _,.non=>true
 | .int _,.int _=>true | .bl _,.bl _=>true | .str _,.str _=>true | .byt _,.byt _=>true
 | .int _,.str _=>true | .str _,.int _=>true | .bl _,.str _=>true | .str _,.bl _=>true
 | _,_=>false
noncomputable def rEq:R2:=λx y H Q=>Cf x y=true/\Q (.bl (decide (x=y))) H
noncomputable def rNe:R2:=λx y H Q=>Cf x y=true/\Q (.bl (!decide (x=y))) H
theorem rf {i j:Int}:decide (V.int i=V.int j)=(i == j):=by
 rw [Bool.eq_iff_iff]
 simp
theorem ud {i j:Bool}:decide (V.bl i=V.bl j)=(i == j):=by
 rw [Bool.eq_iff_iff]
 simp
theorem rm {i j:Str}:decide (V.str i=V.str j)=(i == j):=by
 rw [Bool.eq_iff_iff]
 simp
theorem rG {i j:Array UInt8}:decide (V.byt i=V.byt j)=(i.toList == j.toList):=by
 rw [Bool.eq_iff_iff]
 cases i
 cases j
 simp
section
variable {X:Cx} {a b c:Expr} {ta tb tc:TE} {pos:Pos}
theorem aR {pins:List (Addr × Obj)} {σ:St} {H:Hp} {s:Shared} {Q:VK} {k k':Bool} (I:Inv X pins σ H s) (q:Q (.bl k) H) (e:k=k'):EP X pins σ Q (.bool k') s:=by
 subst e
 exact ⟨.bl k,H,I,rfl,q⟩
theorem yE:OpR X (compareOp .Eq) rEq:=by
 intro pins s σ H x y v u Q I rx ry h
 obtain ⟨hs,q⟩:=h
 cases x with
 | non=>
   cases rx
   cases y with
   | non=>cases ry; exact PySem.EqNone.eq_none_none (aR I q (by simp))
   | bl j=>cases ry; exact PySem.EqNone.eq_none_bool (aR I q (by simp))
   | int j=>obtain ⟨t',rfl⟩:=ry; exact PySem.EqNone.eq_none_int (aR I q (by simp))
   | str j=>obtain ⟨t',rfl⟩:=ry; exact PySem.EqNone.eq_none_str (aR I q (by simp))
   | _=>exact absurd (show false=true from hs) Bool.false_ne_true
 | bl i=>
   cases rx
   cases y with
   | non=>cases ry; exact PySem.EqNone.eq_bool_none (aR I q (by simp))
   | bl j=>cases ry; exact eq_bool (aR I q ud)
   | str j=>obtain ⟨t',rfl⟩:=ry; exact PySem.EqMixed.eq_bool_str (aR I q (by simp))
   | _=>exact absurd (show false=true from hs) Bool.false_ne_true
 | int i=>
   obtain ⟨t,rfl⟩:=rx
   cases y with
   | non=>cases ry; exact PySem.EqNone.eq_int_none (aR I q (by simp))
   | int j=>obtain ⟨t',rfl⟩:=ry; exact eq_int (aR I q rf)
   | str j=>obtain ⟨t',rfl⟩:=ry; exact PySem.EqMixed.eq_int_str (aR I q (by simp))
   | _=>exact absurd (show false=true from hs) Bool.false_ne_true
 | str i=>
   obtain ⟨t,rfl⟩:=rx
   cases y with
   | non=>cases ry; exact PySem.EqNone.eq_str_none (aR I q (by simp))
   | bl j=>cases ry; exact PySem.EqMixed.eq_str_bool (aR I q (by simp))
   | int j=>obtain ⟨t',rfl⟩:=ry; exact PySem.EqMixed.eq_str_int (aR I q (by simp))
   | str j=>obtain ⟨t',rfl⟩:=ry; exact eq_str (aR I q rm)
   | _=>exact absurd (show false=true from hs) Bool.false_ne_true
 | byt i=>
   obtain ⟨t,rfl⟩:=rx
   cases y with
   | byt j=>obtain ⟨t',rfl⟩:=ry; exact PySem.W.eq_bytes (aR I q rG)
   | _=>exact absurd (show false=true from hs) Bool.false_ne_true
 | _=>cases y <;> exact absurd (show false=true from hs) Bool.false_ne_true
theorem yv:OpR X (compareOp .NotEq) rNe:=by
 intro pins s σ H x y v u Q I rx ry h
 obtain ⟨hs,q⟩:=h
 cases x with
 | non=>
   cases rx
   cases y with
   | non=>cases ry; exact PySem.EqNone.ne_none_none (aR I q (by simp))
   | bl j=>cases ry; exact PySem.EqNone.ne_none_bool (aR I q (by simp))
   | int j=>obtain ⟨t',rfl⟩:=ry; exact PySem.EqNone.ne_none_int (aR I q (by simp))
   | str j=>obtain ⟨t',rfl⟩:=ry; exact PySem.EqNone.ne_none_str (aR I q (by simp))
   | _=>exact absurd (show false=true from hs) Bool.false_ne_true
 | bl i=>
   cases rx
   cases y with
   | non=>cases ry; exact PySem.EqNone.ne_bool_none (aR I q (by simp))
   | bl j=>cases ry; exact ne_bool (aR I q (congrArg not ud))
   | str j=>obtain ⟨t',rfl⟩:=ry; exact PySem.EqMixed.ne_bool_str (aR I q (by simp))
   | _=>exact absurd (show false=true from hs) Bool.false_ne_true
 | int i=>
   obtain ⟨t,rfl⟩:=rx
   cases y with
   | non=>cases ry; exact PySem.EqNone.ne_int_none (aR I q (by simp))
   | int j=>obtain ⟨t',rfl⟩:=ry; exact ne_int (aR I q (congrArg not rf))
   | str j=>obtain ⟨t',rfl⟩:=ry; exact PySem.EqMixed.ne_int_str (aR I q (by simp))
   | _=>exact absurd (show false=true from hs) Bool.false_ne_true
 | str i=>
   obtain ⟨t,rfl⟩:=rx
   cases y with
   | non=>cases ry; exact PySem.EqNone.ne_str_none (aR I q (by simp))
   | bl j=>cases ry; exact PySem.EqMixed.ne_str_bool (aR I q (by simp))
   | int j=>obtain ⟨t',rfl⟩:=ry; exact PySem.EqMixed.ne_str_int (aR I q (by simp))
   | str j=>obtain ⟨t',rfl⟩:=ry; exact ne_str (aR I q (congrArg not rm))
   | _=>exact absurd (show false=true from hs) Bool.false_ne_true
 | byt i=>
   obtain ⟨t,rfl⟩:=rx
   cases y with
   | byt j=>obtain ⟨t',rfl⟩:=ry; exact PySem.W.ne_bytes (aR I q (congrArg not rG))
   | _=>exact absurd (show false=true from hs) Bool.false_ne_true
 | _=>cases y <;> exact absurd (show false=true from hs) Bool.false_ne_true
theorem B8:OpR X (compareOp .Lt) (rI0 λi j=>.bl (decide (i < j))):=xg λ_ _ _ _ _ _ _ q=>lt_int q
theorem Bv:OpR X (compareOp .LtE) (rI0 λi j=>.bl (decide (i<=j))):=xg λ_ _ _ _ _ _ _ q=>le_int q
theorem A1:OpR X (compareOp .Gt) (rI0 λi j=>.bl (decide (j < i))):=xg λ_ _ _ _ _ _ _ q=>gt_int q
theorem BV:OpR X (compareOp .GtE) (rI0 λi j=>.bl (decide (j<=i))):=xg λ_ _ _ _ _ _ _ q=>ge_int q
theorem yR:OpR X (compareOp .Is) (λx y H Q=>y=.non/\Q (.bl (decide (x=.non))) H):=by
 intro pins s σ H x y v u Q I rx ry h
 obtain ⟨rfl,q⟩:=h
 cases ry
 refine is_none_gen (aR I q ?_)
 cases x <;> first
   | (cases rx; rfl)
   | (obtain ⟨t,rfl⟩:=rx; rfl)
theorem pQ (b:Expr) {op:CmpOp} (h:op ≠ .In:=by decide) (h2:op ≠ .NotIn:=by decide):behindInMarks op b=false:=by
 have e1:(op == CmpOp.In)=false:=by cases op <;> first | rfl | exact absurd rfl h
 have e2:(op == CmpOp.NotIn)=false:=by cases op <;> first | rfl | exact absurd rfl h2
 cases b <;> simp [behindInMarks,e1,e2]
theorem xG {op:CmpOp} {r:R2} (ho:OpR X (compareOp op) r) (ha:PE X a ta) (hb:PE X b tb) (hm:behindInMarks op b=false):PE X (.Compare a [op] [b] pos) (tOp r ta tb):=by
 intro pins s σ H Q I h
 exact wpAny_Compare1 (AO ha hb I h λv u s2 x y H2 I2 rx ry q=>ho pins s2 σ H2 x y v u Q I2 rx ry q) hm
noncomputable def yK (t:TE):TT:=λσ H Q=>t σ H λx H'=>∃ k,x=.bl k/\Q k H'
theorem sh {op:CmpOp} {r:R2} (ho:OpR X (compareOp op) r) (ha:PE X a ta) (hb:PE X b tb) (hm:behindInMarks op b=false):PT X (.Compare a [op] [b] pos) (yK (tOp r ta tb)):=by
 intro pins s σ H Q I h
 refine wpAny_isTrue_Compare1 (thn (ha pins s σ H _ I h) λv s1 ⟨x,H1,I1,r1,q1⟩=>thn (hb pins s1 σ H1 _ I1 q1) λu s2 ⟨y,H2,I2,r2,q2⟩=>
   thn (ho pins s2 σ H2 x y v u _ I2 r1 r2 q2) λc s3 ⟨z,H3,I3,r3,k,e,q3⟩=>?_) hm
 subst e
 cases r3
 exact wpAny_truthy_bool ⟨H3,I3,q3⟩
noncomputable def pM (r r':R2) (ta tb tc:TE):TE:=λσ H Q=>ta σ H λx H1=>tb σ H1 λy H2=>r x y H2 λz H3=>∃ k,z=.bl k /\
 (if k=true then tc σ H3 λw' H4=>r' y w' H4 Q else Q (.bl false) H3)
theorem v7 {op op':CmpOp} {r r':R2} (ho:OpR X (compareOp op) r) (ho':OpR X (compareOp op') r') (ha:PE X a ta) (hb:PE X b tb) (hc:PE X c tc)
   (hm:lastMarks [op,op'] [b,c]=false:=by with_unfolding_all rfl):PE X (.Compare a [op,op'] [b,c] pos) (pM r r' ta tb tc):=by
 intro pins s σ H Q I h
 refine Compare_chain (thn (ha pins s σ H _ I h) λv s1 ⟨x,H1,I1,r1,q1⟩=>chain_link (thn (hb pins s1 σ H1 _ I1 q1) λu s2 ⟨y,H2,I2,r2,q2⟩=>
   thn (ho pins s2 σ H2 x y v u _ I2 r1 r2 q2) λd s3 ⟨z,H3,I3,r3,k,e,q3⟩=>?_)) hm
 subst e
 cases r3
 refine wpAny_truthy_bool ?_
 cases k with
 | false=>exact ite_ff ⟨.bl false,H3,I3,rfl,q3⟩
 | true=>exact ite_tt (chain_last (thn (hc pins s3 σ H3 _ I3 q3) λw' s4 ⟨z',H4,I4,r4,q4⟩=>ho' pins s4 σ H4 y z' u w' Q I4 r2 r4 q4))
theorem vL {op op':CmpOp} {r r':R2} (ho:OpR X (compareOp op) r) (ho':OpR X (compareOp op') r') (ha:PE X a ta) (hb:PE X b tb) (hc:PE X c tc)
   (hm:lastMarks [op,op'] [b,c]=false:=by with_unfolding_all rfl):PT X (.Compare a [op,op'] [b,c] pos) (yK (pM r r' ta tb tc)):=by
 intro pins s σ H Q I h
 refine isTrue_chain (thn (ha pins s σ H _ I h) λv s1 ⟨x,H1,I1,r1,q1⟩=>test_link (thn (hb pins s1 σ H1 _ I1 q1) λu s2 ⟨y,H2,I2,r2,q2⟩=>
   thn (ho pins s2 σ H2 x y v u _ I2 r1 r2 q2) λd s3 ⟨z,H3,I3,r3,k,e,q3⟩=>?_)) hm
 subst e
 cases r3
 refine wpAny_truthy_bool ?_
 cases k with
 | false=>
   obtain ⟨k',e',q'⟩:=q3
   cases e'
   exact ite_ff ⟨H3,I3,q'⟩
 | true=>
   refine ite_tt (test_last (thn (hc pins s3 σ H3 _ I3 q3) λw' s4 ⟨z',H4,I4,r4,q4⟩=>thn (ho' pins s4 σ H4 y z' u w' _ I4 r2 r4 q4) λd' s5 ⟨z2,H5,I5,r5,k2,e2,q5⟩=>?_))
   subst e2
   cases r5
   exact wpAny_truthy_bool ⟨H5,I5,q5⟩
theorem mJ:(sizeLine:Nat) < 2 ^ 63:=by rw [sizeLine_eq]; decide
theorem vals1 {x:V} {us:List Value} (r:Vals [x] us):∃ u,us=[u]/\RelV x u:=by
 cases r with
 | cons r1 r2=>cases r2; exact ⟨_,rfl,r1⟩
theorem vals2 {x y:V} {us:List Value} (r:Vals [x,y] us):∃ u w',us=[u,w']/\RelV x u/\RelV y w':=by
 cases r with
 | cons r1 r2=>
   cases r2 with
   | cons r3 r4=>cases r4; exact ⟨_,_,rfl,r1,r3⟩
theorem uc:fF X (.builtin "abs") (λxs H Q=>∃ i,xs=[.int i]/\Q (.int (if i < 0 then -i else i)) H):=by
 intro pins s σ H xs us Q I r h
 obtain ⟨i,rfl,q⟩:=h
 obtain ⟨u,rfl,t,rfl⟩:=vals1 r
 exact call_abs_int λu tk=>⟨.int (if i < 0 then -i else i),H,I.tok _,⟨_,rfl⟩,q⟩
theorem sP (hc:X.calm=true):fF X (.builtin "min") (λxs H Q=>∃ i j,xs=[.int i,.int j]/\Q (.int (if j < i then j else i)) H):=by
 intro pins s σ H xs us Q I r h
 obtain ⟨i,j,rfl,q⟩:=h
 obtain ⟨u,w',rfl,⟨t,rfl⟩,⟨t',rfl⟩⟩:=vals2 r
 refine min_two_ints (I.ok.hd hc) λh' tk k=>⟨_,H,I.kept k,?_,q⟩
 by_cases hj:j < i
 · rw [if_pos hj,if_pos hj]; exact ⟨_,rfl⟩
 · rw [if_neg hj,if_neg hj]; exact ⟨_,rfl⟩
end
section
variable {prog:Program} {w:World} {A:Around} {E:Value->Shared->Prop} {s:Shared} {K:PySem.W.Frag} {x dx C f:Addr} {mA:Str->Option Value} {name:Str} {v:Value}
end
theorem oQ.some_of {v:V} {o:Option Value} (r:oQ (some v) o):∃ u,o=some u/\RelV v u:=by
 cases o with
 | none=>exact (show False from r).elim
 | some u=>exact ⟨u,rfl,r⟩
section
variable {P:Program} {w:World} {H H':Hp} {h h':Heap} {a C dx:Addr} {fs fs':List (Str × V)}
end
section
variable {X:Cx} {pins:List (Addr × Obj)} {σ:St} {H:Hp} {s:Shared} {a C dx:Addr} {fs:List (Str × V)} {f:Str} {v:V} {A:Around} {E:Value->Shared->Prop}
end
section
variable {X:Cx} {o e value:Expr} {f:Str} {pos pos' tpos:Pos} {ta tv:TE}
end
section
variable {X:Cx} {pins:List (Addr × Obj)} {σ:St} {H:Hp} {s:Shared} {A:Around} {E:Value->Shared->Prop} {Q:Value->Shared->Prop} {c:Value} {b:Bool}
end
structure eL (k:Nat) (A:Around):Prop where
 hd:A.handled=none
 dp:A.depth + 3 * k + 5 < recursionLimit
 un:A.units + 16 * k + 200 < cLine
theorem eL.mono {j k:Nat} {A:Around} (r:eL k A) (h:j<=k):eL j A:=⟨r.hd,by have:=r.dp; omega,by have:=r.un; omega⟩
theorem eL.deeper {k:Nat} {A:Around} (r:eL (k + 1) A) (env:Env):eL k (A.deeper env):=
 ⟨r.hd,by have:=r.dp; show A.depth + 1 + 3 * k + 5 < _; omega,by have:=r.un; show A.units + 3 + 16 * k + 200 < _; omega⟩
theorem eL.depth {k:Nat} {A:Around} (r:eL k A):A.depth < recursionLimit:=by have:=r.dp; omega
theorem eL.units {k:Nat} {A:Around} (r:eL k A):A.units + 64 < cLine:=by have:=r.un; omega
noncomputable def DE:TA:=λ_ H Q=>Q [] H
noncomputable def BB (ta:TE) (tr:TA):TA:=λσ H Q=>ta σ H λx H1=>tr σ H1 λxs H2=>Q (x :: xs) H2
section
variable {X:Cx} {e:Expr} {es:List Expr} {te:TE} {t:TA} {pos:Pos}
theorem dC:PA X [] DE:=λ_ _ _ _ H Q I h=>Calls.spliced_nil ⟨[],H,I,.nil,h⟩
theorem bF (ha:PE X e te) (hr:PA X es t) (hs:starEach (e :: es) X.env=(false,eval e X.env) :: starEach es X.env:=by rfl):PA X (e :: es) (BB te t):=by
 intro pos pins s σ H Q I h
 rw [hs]
 show wpAny _ _ (spliced ((false,eval e X.env) :: backTo pos (starEach es X.env))) _ _ s
 refine Calls.spliced_cons (thn (ha pins s σ H _ I h) λu s1 ⟨x,H1,I1,r1,q1⟩=>?_)
 exact thn (hr pos pins s1 σ H1 _ I1 q1) λus s2 ⟨xs,H2,I2,r2,q2⟩=>⟨x :: xs,H2,I2,.cons r1 r2,q2⟩
noncomputable def Dd (t:TA):TE:=λσ H Q=>t σ H λxs H1=>xs.length<=sizeLine/\∀ p,H1 p=none->Q (.ref p) (upd H1 p (.tup xs))
noncomputable def Df (t:TA):TE:=λσ H Q=>t σ H λxs H1=>xs.length<=sizeLine/\∀ p,H1 p=none->Q (.ref p) (upd H1 p (.lst xs))
theorem v5 {x1} (h:PA X es t):PE X (.Tuple es x1 pos) (Dd t):=by
 intro pins s σ H Q I hq
 refine wpAny_Tuple_spliced (thn (h pos pins s σ H _ I hq) λus s1 ⟨xs,H1,I1,r,z,q⟩=>⟨by rw [<- r.length]; exact z,?_⟩)
 have hf:H1 s1.heap.objs.size=none:=I1.hok.fresh (Nat.le_refl _)
 refine ⟨.ref s1.heap.objs.size,upd H1 s1.heap.objs.size (.tup xs),I1.laid (t':=s1.toks) (λb u e=>Heap.get?_push_of_some _ e) (Nat.le_refl _) ?_,rfl,q _ hf⟩
 exact ⟨z,us,r,⟨_,Heap.get?_push_size _ rfl,rfl,_,rfl⟩⟩
theorem Av (h:PA X es t):PE X (.List es pos) (Df t):=by
 intro pins s σ H Q I hq
 refine wpAny_List_spliced (thn (h pos pins s σ H _ I hq) λus s1 ⟨xs,H1,I1,r,z,q⟩=>⟨by rw [<- r.length]; exact z,?_⟩)
 have hf:H1 s1.heap.objs.size=none:=I1.hok.fresh (Nat.le_refl _)
 refine ⟨.ref s1.heap.objs.size,upd H1 s1.heap.objs.size (.lst xs),I1.laid (t':=s1.toks) (λb u e=>Heap.get?_push_of_some _ e) (Nat.le_refl _) ?_,rfl,q _ hf⟩
 exact ⟨z,us,0,r,Heap.get?_push_size _ rfl⟩
end
noncomputable abbrev Sp:=List V->Hp->VK->XK->Prop
noncomputable abbrev CXT:=List Env->Hp->Shared->XK->Value->Shared->Prop
structure vx (P:Program) (w:World) (K:PySem.W.Frag) (mg:Str->Option Value) (base:Heap) (A:Around) (outer:List Env) (s:Shared) (H:Hp):Prop where
 frames:A.frames=some outer
 mod:Mod K mg base
 bs:∀ b o,base.get? b=some o->s.heap.get? b=some o/\H b=none
 bsz:base.objs.size<=s.heap.objs.size
 iZ:s.heap.FunFrames base outer
 frf:∀ b ∈ frs outer,H b=none
 hok:HOk P w H s.heap
 bare:AllBare s.gens
noncomputable def CE (outer:List Env) (P:Program) (w:World) (H:Hp) (s:Shared) (Q:VK) (u:Value) (s':Shared):Prop:=
 ∃ v H',s'.os=s.os/\AllBare s'.gens/\Un (frs outer) [] H H' s.heap s'.heap/\HOk P w H' s'.heap/\RelV v u/\Q v H'
noncomputable def CR (CX:CXT) (outer:List Env) (P:Program) (w:World) (H:Hp) (s:Shared) (Q:VK) (E:XK) (r:Result) (s':Shared):Prop:=
 match r with
 | .ok (.ret u)=>CE outer P w H s Q u s'
 | .ok _=>False
 | .error e=>CX outer H s E e s'
structure aN (P:Program) (w:World) (K:PySem.W.Frag) (mg:Str->Option Value) (base:Heap) (CX:CXT) (k:Nat) (f:Addr) (fd:FuncData) (ps:List Str) (sp:Sp):Prop where
 len:∀ vs H Q E,sp vs H Q E->vs.length=ps.length
 run:∀ (A:Around) (outer:List Env) (s:Shared) (H:Hp) (args:Args) (us:List Value) (vs:List V) (Q:VK) (E:XK),eL k A->vx P w K mg base A outer s H->BindsTo s fd args (ps.zip us)->Vals vs us->sp vs H Q E ->
   codeAny (model P w) A (.call (.ref f) args) (CR CX outer P w H s Q E) s
theorem aN.mono {P:Program} {w:World} {K:PySem.W.Frag} {mg:Str->Option Value} {base:Heap} {CX:CXT} {j k:Nat} {f:Addr} {fd:FuncData} {ps:List Str} {sp:Sp} (F:aN P w K mg base CX j f fd ps sp) (h:j<=k) :
   aN P w K mg base CX k f fd ps sp:=⟨F.len,λA outer s H args us vs Q E hr=>F.run A outer s H args us vs Q E (hr.mono h)⟩
section
variable {X:Cx} {pins:List (Addr × Obj)} {σ:St} {H:Hp} {s s':Shared}
theorem Inv.BS (I:Inv X pins σ H s):vx X.prog X.w X.K X.mg X.base X.A X.stack s H:=
 ⟨I.ok.frames,I.ok.mod,I.bs,Nat.le_trans I.ok.bsz I.sz,I.stack,I.iw,I.hok,I.bare⟩
theorem Inv.after {Q:VK} {u:Value} (I:Inv X pins σ H s) (h:CE X.stack X.prog X.w H s Q u s'):EP X pins σ Q u s':=by
 obtain ⟨v,H',os,bare,un,hok,r,q⟩:=h
 obtain ⟨hh,g,d,t,os'⟩:=s'
 obtain rfl:os'=s.os:=os
 exact ⟨v,H',I.call (h':=hh) (g':=g) (d':=d) (t':=t) (ch:=[]) un hok bare (λb z=>absurd z (by simp)),r,q⟩
end
noncomputable def BE (sp:Sp) (dvs:List V) (E:XK) (t:TA):TE:=λσ H Q=>t σ H λvs H1=>sp (vs++dvs) H1 Q E
noncomputable def Binds (K:PySem.W.Frag) (fd:FuncData) (ps:List Str) (ds:List Value):Prop:=
 ∀ (s:Shared) (us:List Value),K.In s.heap->(us++ds).length=ps.length->BindsTo s fd ⟨us,[]⟩ (ps.zip (us++ds))
theorem Binds.all {K:PySem.W.Frag} {fd:FuncData} {ps:List Str} (h:∀ us:List Value,us.length=ps.length->bindArgs fd ⟨us,[]⟩=pure (ps.zip us)):Binds K fd ps []:=λs us _ hl=>by
 rw [List.append_nil] at hl ⊢
 exact .of_eq (h us hl)
noncomputable def Passes (CX:CXT) (X:Cx) (E:XK):Prop:=∀ (pins:List (Addr × Obj)) (σ:St) (H:Hp) (s:Shared) (e:Value) (s':Shared),Inv X pins σ H s->CX X.stack H s E e s'->X.xe e s'
section
variable {X:Cx} {CX:CXT} {k:Nat} {f C:Addr} {fd:FuncData} {ps:List Str} {sp:Sp} {dvs:List V} {ds:List Value} {E:XK} {x m:Str} {p pos apos:Pos} {e o:Expr} {es:List Expr} {ta:TE} {t:TA}
theorem zR {pins:List (Addr × Obj)} {σ:St} {H:Hp} {s:Shared} {Q:VK} {us:List Value} {vs:List V} (F:aN X.prog X.w X.K X.mg X.base CX k f fd ps sp) (hr:eL k X.A) (hb:Binds X.K fd ps ds) (hd:Vals dvs ds) (hx:Passes CX X E)
   (I:Inv X pins σ H s) (r:Vals vs us) (h:sp (vs++dvs) H Q E):wpAny (model X.prog X.w) X.A (call (.ref f) us) (EP X pins σ Q) X.xe s:=by
 have r2:Vals (vs++dvs) (us++ds):=r.append hd
 have hl:(us++ds).length=ps.length:=by rw [<- r2.length]; exact F.len _ _ _ _ h
 refine wpAny_call (codeAny_mono (F.run X.A X.stack s H ⟨us,[]⟩ (us++ds) (vs++dvs) Q E hr I.BS (hb s us I.kIn hl) r2 h) λr s' hq=>?_)
 cases r with
 | error e=>exact hx pins σ H s e s' I hq
 | ok fl=>
   cases fl with
   | ret u=>exact I.after hq
   | next=>exact False.elim hq
   | brk=>exact False.elim hq
   | cont=>exact False.elim hq
theorem sf (F:aN X.prog X.w X.K X.mg X.base CX k f fd ps sp) (hr:eL k X.A) (hg:Gl X x) (hm:X.mg x=some (.ref f)) (hk:PySem.W.keepIn X.K (.ref f)=true) (hb:Binds X.K fd ps ds) (hd:Vals dvs ds) (hx:Passes CX X E)
   (ha:PA X (e :: es) t) (hdb:(x == ("__debug__" : Str))=false:=by decide) (he:starEach (e :: es) X.env=(false,eval e X.env) :: starEach es X.env:=by rfl) (hpl:(backTo pos (starEach es X.env)).any (·.1)=false:=by rfl) :
   PE X (.Call (.Name x p) (e :: es) [] pos) (BE sp dvs E t):=by
 intro pins s σ H Q I h
 refine wpAny_Call_Name_kw (iH I hg hm ?_ hdb)
 refine PySem.W.callWith_K (h₀:=X.base) I.ok.mod.kin hk (thn (ha pos pins s σ H _ I h) λus s1 ⟨vs,H1,I1,r,q⟩=>⟨I1.kIn,?_⟩) he hpl
 exact zR F hr hb hd hx I1 r q
end
section
variable {X:Cx} {CX:CXT} {k:Nat} {f C:Addr} {fd:FuncData} {ps ks:List Str} {sp:Sp} {E:XK} {x m:Str} {p pos apos kpos:Pos} {e o:Expr} {es:List Expr} {kws:List Keyword} {te ta:TE} {t tk:TA} {nm:Option Str}
variable {g:List Value->List Value->List Value} {gV:List V->List V->List V}
end
structure ax (N P:List Str) (sc:Scope):Prop where
 kind:sc.kind=.function
 co:sc.isCoroutine=false
 gen:sc.isGenerator=false
 nd:N.Nodup
 pre:N.take P.length=P
 par:∀ x ∈ P,sc.names.lookup x=some .local\/sc.names.lookup x=some .cell
 nofree:∀ y ∈ sc.names,y.2 ≠ .free
theorem l4 {kindOf:Str->Option NameKind} {x:Str}:∀ {binds:List (Str × Value)} {m:Str->Option Value},(∀ v,(x,v) ∉ binds)->bindL kindOf binds m x=m x
 | [],_,_=>rfl
 | (n,v) :: r,m,h=>by
   unfold bindL
   rw [l4 λw hw=>h w (List.mem_cons_of_mem _ hw)]
   split
   · have:x ≠ n:=by rintro rfl; exact h v List.mem_cons_self
     simp [this]
   · rfl
theorem lX {kindOf:Str->Option NameKind} {x:Str}:∀ {binds:List (Str × Value)} {m:Str->Option Value},(∀ v,(x,v) ∉ binds)->bindC kindOf binds m x=m x
 | [],_,_=>rfl
 | (n,v) :: r,m,h=>by
   unfold bindC
   rw [lX λw hw=>h w (List.mem_cons_of_mem _ hw)]
   split
   · rfl
   · have:x ≠ n:=by rintro rfl; exact h v List.mem_cons_self
     simp [this]
theorem l6 {kindOf:Str->Option NameKind} {x:Str} {v:Value}:∀ {P:List Str} {vs:List Value} {i:Nat} {m:Str->Option Value},P.Nodup->P[i]?=some x->vs[i]?=some v->kindOf x=some .local ->
   bindL kindOf (P.zip vs) m x=some v
 | [],_,_,_,_,h,_,_=>by simp at h
 | _ :: _,[],_,_,_,_,h,_=>by simp at h
 | p :: P,w :: vs,0,m,nd,h1,h2,hk=>by
   simp at h1 h2; subst h1; subst h2
   show bindL kindOf ((p,w) :: P.zip vs) m p=_
   unfold bindL
   rw [l4 λv hv=>(List.nodup_cons.mp nd).1 (List.of_mem_zip hv).1,if_pos hk]
   simp
 | p :: P,w :: vs,i + 1,m,nd,h1,h2,hk=>by
   show bindL kindOf ((p,w) :: P.zip vs) m x=_
   unfold bindL
   exact l6 (i:=i) (List.nodup_cons.mp nd).2 (by simpa using h1) (by simpa using h2) hk
theorem lJ {kindOf:Str->Option NameKind} {x:Str} {v:Value}:∀ {P:List Str} {vs:List Value} {i:Nat} {m:Str->Option Value},P.Nodup->P[i]?=some x->vs[i]?=some v->kindOf x ≠ some .local ->
   bindC kindOf (P.zip vs) m x=some v
 | [],_,_,_,_,h,_,_=>by simp at h
 | _ :: _,[],_,_,_,_,h,_=>by simp at h
 | p :: P,w :: vs,0,m,nd,h1,h2,hk=>by
   simp at h1 h2; subst h1; subst h2
   show bindC kindOf ((p,w) :: P.zip vs) m p=_
   unfold bindC
   rw [lX λv hv=>(List.nodup_cons.mp nd).1 (List.of_mem_zip hv).1,if_neg hk]
   simp
 | p :: P,w :: vs,i + 1,m,nd,h1,h2,hk=>by
   show bindC kindOf ((p,w) :: P.zip vs) m x=_
   unfold bindC
   exact lJ (i:=i) (List.nodup_cons.mp nd).2 (by simpa using h1) (by simpa using h2) hk
noncomputable def start (N:List Str) (vs:List V):St:=vs.map some++List.replicate (N.length - vs.length) none
noncomputable def kK (CX:CXT) (P:Program) (w:World) (K:PySem.W.Frag) (mg:Str->Option Value) (base:Heap) (N:List Str) (qual:Str) (scope:Scope) (f:Addr) (cd:Value) (A:Around) (outer:List Env) (s:Shared) (H:Hp) (E:XK):Cx where
 prog:=P
 w:=w
 K:=K
 mg:=mg
 base:=base
 A:=A.deeper (envOfC qual scope s.heap.objs.size f cd)
 N:=N
 s₀:=s
 H₀:=H
 env:=envOfC qual scope s.heap.objs.size f cd
 outer:=outer
 stack:=envOfC qual scope s.heap.objs.size f cd :: outer
 ex:=[]
 calm:=true
 fn:=λ_=>true
 pn:=[]
 xe:=λe s'=>wpAny (model P w) (A.deeper (envOfC qual scope s.heap.objs.size f cd)) (leaving (envOfC qual scope s.heap.objs.size f cd) e) (λ_ s''=>CX outer H s E e s'') (λe' s''=>CX outer H s E e' s'') s'
theorem oj {sc:Scope} {n:Nat} {x:Str} (h:sc.names.lookup x=some .cell):∃ c,(cellsFrom n sc.names []).lookup x=some c:=by
 have q:=PySem.W.cellsFrom_some sc.names n [] (.inl h)
 exact Option.isSome_iff_exists.mp q
theorem lD {CX:CXT} {P:Program} {w:World} {K:PySem.W.Frag} {mg:Str->Option Value} {base:Heap} {N ps:List Str} {qual:Str} {scope:Scope} {f:Addr} {cd:Value} {A:Around} {outer:List Env} {s s1:Shared} {H:Hp} {E:XK} {us:List Value} {vs:List V}
   (S:ax N ps scope) {cm:Bool} (hd:cm=true->A.handled=none) (e0:vx P w K mg base A outer s H) (hl:vs.length=ps.length) (r:Vals vs us)
   (x:InCallC s s.heap.objs.size (bindL (envOfC qual scope s.heap.objs.size f cd).kindOf (ps.zip us) λ_=>none) (cellsFrom (s.heap.objs.size + 1) scope.names []) (bindC (envOfC qual scope s.heap.objs.size f cd).kindOf (ps.zip us) λ_=>none) s1) :
   Inv { kK CX P w K mg base N qual scope f cd A outer s H E with calm:=cm } [] (start N vs) H s1:=by
 have hpl:ps.length<=N.length:=by have:=congrArg List.length S.pre; rw [List.length_take] at this; omega
 obtain ⟨h1,tk,rfl,hk⟩:=x.done
 have noA:∀ b:Addr,b ∉ (kK CX P w K mg base N qual scope f cd A outer s H E).ex:=λb z=>absurd (show b ∈ ([]:List Addr) from z) (by simp)
 refine ⟨⟨e0.mod,S.kind,rfl,rfl,Nat.le_refl _,λy z c h1 h2=>?_,λy hy=>?_,λy c _ h=>?_,hd,Around.frames_deeper e0.frames,.inr ⟨rfl,rfl⟩,λb z=>absurd z (noA b),e0.bs,e0.bsz,λb _ _=>noA b,λb z=>absurd z (noA b),e0.iZ,e0.frf⟩,
   rfl,e0.bare,Un.kept hk,⟨_,x.toInCall.ns,λi y v h1 h2 h3=>?_⟩,λy c h=>⟨_,x.cell y c h⟩,e0.hok.fresh (Nat.le_refl _),λy c h=>?_,λp hp=>absurd (show p ∈ ([]:List (Addr × Obj)) from hp) (by simp),e0.hok.kept hk,?_⟩
 · exact name_of_addr x.apart (PySem.mem_of_lookup h1) (PySem.mem_of_lookup h2)
 · have hy:scope.names.lookup y=some .cell\/scope.names.lookup y=some .free:=hy
   rcases hy with hy | hy
   · exact oj hy
   · exact absurd rfl (S.nofree _ (PySem.mem_of_lookup hy))
 · exact Nat.le_of_lt (x.above y c (PySem.mem_of_lookup h))
 · have hi:i < vs.length:=by
     unfold start at h2
     by_cases hi:i < vs.length
     · exact hi
     · rw [List.getElem?_append_right (by simpa using hi)] at h2
       rw [List.getElem?_replicate] at h2
       split at h2 <;> cases h2
   have ha:vs[i]?=some v:=by
     unfold start at h2
     rw [List.getElem?_append_left (by simpa using hi),List.getElem?_map] at h2
     cases e:vs[i]? with
     | none=>rw [e] at h2; cases h2
     | some a=>rw [e] at h2; cases h2; rfl
   obtain ⟨u,hu,rv⟩:=r.get ha
   have hp:ps[i]?=some y:=by
     rw [<- S.pre,List.getElem?_take_of_lt (by omega)]; exact h1
   have ndP:ps.Nodup:=by rw [<- S.pre]; exact S.nd.sublist (List.take_sublist _ _)
   refine ⟨u,rv,?_⟩
   rcases S.par y (List.mem_of_getElem? hp) with k | k
   · exact .inl ⟨k,l6 ndP hp hu k⟩
   · obtain ⟨c,e⟩:=oj (n:=s.heap.objs.size + 1) k
     refine .inr ⟨.inl k,c,e,?_⟩
     have q:=x.cell y c e
     rw [lJ ndP hp hu (by show scope.names.lookup y ≠ _; rw [k]; decide)] at q
     exact q
 · exact e0.hok.fresh (Nat.le_of_lt (x.above y c (PySem.mem_of_lookup h)))
 · unfold start
   show _=N.length
   rw [List.length_append,List.length_map,List.length_replicate]
   omega
theorem yC {CX:CXT} {P:Program} {w:World} {K:PySem.W.Frag} {mg:Str->Option Value} {base:Heap} {k:Nat} {f:Addr} {name qual:Str} {params:Arguments} {body:List Stmt} {scope:Scope} {dV kV doc pm cdv ct oc:Value} {an od:Option Addr}
   {osl:Array (Option Value)} {N ps:List Str} {sp:Sp} (lk:K.lookup f=some ⟨oc,od,.func (PySem.W.fnOf name qual params body scope dV kV doc pm an cdv ct),osl⟩) (hcd:PySem.W.codeIn K cdv qual=true) (S:ax N ps scope)
   (len:∀ vs H Q E,sp vs H Q E->vs.length=ps.length)
   (hbody:∀ (A:Around) (outer:List Env) (s:Shared) (H:Hp) (vs:List V) (Q:VK) (E:XK),eL k (A.deeper (envOfC qual scope s.heap.objs.size f cdv))->sp vs H Q E ->
     ∃ t,PSs (kK CX P w K mg base N qual scope f cdv A outer s H E) body t/\t { nx:=λ_ H'=>Q .non H',rt:=Q } (start N vs) H) :
   aN P w K mg base CX (k + 1) f (PySem.W.fnOf name qual params body scope dV kV doc pm an cdv ct) ps sp:=by
 refine ⟨len,λA outer s H args us vs Q E hr e0 hb r hsp=>?_⟩
 have hl:=len _ _ _ _ hsp
 have KX:K.In s.heap:=e0.mod.kin.keeps λb o e=>(e0.bs b o e).1
 have lim:s.heap.NoLimit:=e0.mod.nolimit.keeps λb o e=>(e0.bs b o e).1
 have hkind:∀ y ∈ ps.zip us,scope.names.lookup y.1=some .local\/(scope.names.lookup y.1=some .cell/\((cellsFrom (s.heap.objs.size + 1) scope.names []).lookup y.1).isSome=true):=λ⟨n,v⟩ hy=>by
   rcases S.par n (List.of_mem_zip hy).1 with q | q
   · exact .inl q
   · exact .inr ⟨q,PySem.W.cellsFrom_some _ _ _ (.inl q)⟩
 refine codeAny_call_function hr.depth (KX _ _ lk) rfl S.co S.gen rfl (PySem.W.codeRec_of KX hcd) (hb _ _ _ _ ?_)
 refine wpAny_newFunctionEnv_cells S.kind hkind λenv he s1 x=>?_
 subst he
 refine ⟨lim.keeps x.toInCall.keep,codeAny_func ?_⟩
 obtain ⟨t,ht,hq⟩:=hbody A outer s H vs Q E (hr.deeper _) hsp
 have I:Inv (kK CX P w K mg base N qual scope f cdv A outer s H E) [] (start N vs) H s1:=lD (cm:=true) S (λ_=>hr.hd) e0 hl r x
 refine wpAny_mono (ht [] s1 (start N vs) H _ I hq) (λfl s' hs=>?_) λe s' hs=>hs
 have fin:∀ {σ':St} {H':Hp} {v:V} {u:Value},Inv (kK CX P w K mg base N qual scope f cdv A outer s H E) [] σ' H' s'->RelV v u->Q v H'->CE outer P w H s Q u s':=
   λ{σ' H' v u} J rv q=>⟨v,H',J.os,J.bare,J.base,J.hok,rv,q⟩
 cases fl with
 | ret u=>
   obtain ⟨v,σ',H',J,rv,q⟩:=hs
   exact fin J rv q
 | next=>
   obtain ⟨σ',H',J,q⟩:=hs
   exact fin (v:=V.non) (u:=Value.none) J rfl q
 | brk=>
   obtain ⟨_,_,_,q⟩:=hs
   exact False.elim q
 | cont=>
   obtain ⟨_,_,_,q⟩:=hs
   exact False.elim q
section
variable {X:Cx} {x:Str} {p pos:Pos} {e:Expr} {es:List Expr} {t:TA} {id T:String} {r:List V->Hp->VK->Prop}
noncomputable def tCB (r:List V->Hp->VK->Prop) (t:TA):TE:=λσ H Q=>t σ H λvs H1=>r vs H1 Q
theorem fI (hc:fF X (.builtin id) r) (hg:Gl X x) (hm:X.mg x=none) (hv:bootBuiltins x=some (.builtin id)) (ha:PA X (e :: es) t) (hn:x ≠ "__name__":=by decide) (hdb:(x == ("__debug__" : Str))=false:=by decide)
   (he:starEach (e :: es) X.env=(false,eval e X.env) :: starEach es X.env:=by rfl) (hpl:(backTo pos (starEach es X.env)).any (·.1)=false:=by rfl):PE X (.Call (.Name x p) (e :: es) [] pos) (tCB r t):=by
 intro pins s σ H Q I h
 refine wpAny_Call_Name_kw (eY I hg hm hv ?_ hn hdb)
 exact PyProof.Rows.callWith_builtin1 (thn (ha pos pins s σ H _ I h) λus s1 ⟨vs,H1,I1,r1,q1⟩=>hc pins s1 σ H1 vs us Q I1 r1 q1) he hpl
theorem sD (hc:fF X (.type T) r) (hg:Gl X x) (hm:X.mg x=none) (hv:bootBuiltins x=some (.type T)) (ha:PA X (e :: es) t) (hn:x ≠ "__name__":=by decide) (hdb:(x == ("__debug__" : Str))=false:=by decide)
   (he:starEach (e :: es) X.env=(false,eval e X.env) :: starEach es X.env:=by rfl) (hpl:(backTo pos (starEach es X.env)).any (·.1)=false:=by rfl):PE X (.Call (.Name x p) (e :: es) [] pos) (tCB r t):=by
 intro pins s σ H Q I h
 refine wpAny_Call_Name_kw (eY I hg hm hv ?_ hn hdb)
 exact PyProof.Rows.callWith_type1 (thn (ha pos pins s σ H _ I h) λus s1 ⟨vs,H1,I1,r1,q1⟩=>hc pins s1 σ H1 vs us Q I1 r1 q1) he hpl
end
end L2
namespace HT
open PySem PyProof.Rows
section
open PySem.SeqAt
open PySem.AutoSeq1 (wpAny_loadPart')
open PySem.MeetsSeq PySem.MeetsSeq2 PySem.MeetsSeq3
end
section
variable {prog:Program} {w:World} {A:Around} {E:Value->Shared->Prop} {s:Shared}
noncomputable def sIx (n d:Nat):Option Int->Nat
 | none=>d
 | some v=>if v < 0 then (v + (n:Int)).toNat else min v.toNat n
theorem rg (n d k:Nat):sIx n d (some (k:Int))=min k n:=by
 show (if (k:Int) < 0 then ((k:Int) + (n:Int)).toNat else min (k:Int).toNat n)=min k n
 rw [if_neg (by omega),Int.toNat_natCast]
end
end HT
namespace L2
open PySem PySem.Spec PyProof.Rows
noncomputable abbrev TO:=St->Hp->(Option Int->Hp->Prop)->Prop
noncomputable def PO (X:Cx) (e:Option Expr) (t:TO):Prop:=
 ∀ (pins:List (Addr × Obj)) (s:Shared) (σ:St) (H:Hp) (Q:Option Int->Hp->Prop),Inv X pins σ H s->t σ H Q ->
   wpAny (model X.prog X.w) X.A (evalPart e X.env) (λu s'=>∃ o H',Inv X pins σ H' s'/\IsPart u o/\Q o H') X.xe s
noncomputable def BW (t:TE):TO:=λσ H Q=>t σ H λx H1=>∃ i,x=.int i/\Q (some i) H1
section
variable {X:Cx} {e:Expr} {te:TE} {lo hi:Option Expr} {tl th:TO} {pos p2:Pos}
theorem xE (h:PE X e te):PO X (some e) (BW te):=by
 intro pins s σ H Q I hw
 rw [evalPart_some]
 refine thn (h pins s σ H _ I hw) λu s1 ⟨x,H1,I1,r1,q1⟩=>?_
 obtain ⟨i,rfl,q⟩:=q1
 obtain ⟨t,rfl⟩:=r1
 exact ⟨some i,H1,I1,.int i t,q⟩
noncomputable def SlR (X:Cx) (r:V->Option Int->Option Int->Hp->VK->Prop):Prop:=
 ∀ (pins:List (Addr × Obj)) (s:Shared) (σ:St) (H:Hp) (x:V) (v vl vu:Value) (lo hi:Option Int) (sl:Addr) (Q:VK),Inv X pins σ H s->RelV x v->s.heap.IsSliceOf sl vl vu .none->IsPart vl lo->IsPart vu hi->r x lo hi H Q ->
   ∃ T id,typeLookup (.type T) "__getitem__" = pure (some (.builtin id))/\s.TypeIs v T/\wpAny (model X.prog X.w) X.A (getItem v (.ref sl)) (EP X pins σ Q) X.xe s
noncomputable def tSl (r:V->Option Int->Option Int->Hp->VK->Prop) (te:TE) (tl th:TO):TE:=λσ H Q=>te σ H λx H1=>tl σ H1 λl H2=>th σ H2 λu H3=>r x l u H3 Q
theorem uT {r:V->Option Int->Option Int->Hp->VK->Prop} (hr:SlR X r) (he:PE X e te) (hl:PO X lo tl) (hu:PO X hi th):PE X (.Subscript e (.Slice lo hi none p2) pos) (tSl r te tl th):=by
 intro pins s σ H Q I h
 refine Subscript_ (thn (he pins s σ H _ I h) λv s1 ⟨x,H1,I1,r1,q1⟩=>?_)
 refine wpAny_Slice (thn (hl pins s1 σ H1 _ I1 q1) λvl s2 ⟨l,H2,I2,pl,q2⟩=>thn (hu pins s2 σ H2 _ I2 q2) λvu s3 ⟨u,H3,I3,pu,q3⟩=>?_)
 rw [evalPart_none]
 refine wpAny_pure ?_
 have I4:Inv X pins σ H3 { s3 with heap:=s3.heap.push { cls:=.type "slice",data:=.fields #[vl,vu,.none] } }:=I3.kept (t':=s3.toks) λb ob q=>Heap.get?_push_of_some _ q
 obtain ⟨T,id,hT,ht,hg⟩:=hr pins { s3 with heap:=s3.heap.push { cls:=.type "slice",data:=.fields #[vl,vu,.none] } } σ H3 x v vl vu l u s3.heap.objs.size Q I4 r1 (Heap.IsSliceOf.new ..) pl pu q3
 show wpAny (model X.prog X.w) X.A (subscriptTail e (.Slice lo hi none p2) v (.ref s3.heap.objs.size)) (EP X pins σ Q) X.xe { s3 with heap:=s3.heap.push { cls:=.type "slice",data:=.fields #[vl,vu,.none] } }
 exact tail_any (ops:=[.ref s3.heap.objs.size,v]) ht hT hg (by with_unfolding_all rfl)
noncomputable def tF (xs:List V) (lo hi:Option Int):List V:=(xs.drop (HT.sIx xs.length 0 lo)).take (HT.sIx xs.length xs.length hi - HT.sIx xs.length 0 lo)
theorem oq (xs:List V) (lo hi:Option Int):(tF xs lo hi).length<=xs.length:=by
 unfold tF
 rw [List.length_take,List.length_drop]
 omega
end
noncomputable def ixN (n:Nat) (i:Int):Option Nat:=if 0<=i then (if i < n then some i.toNat else none) else if -(n:Int)<=i then some (i + n).toNat else none
noncomputable def atI {α:Type} (xs:List α) (i:Int):Option α:=(ixN xs.length i).bind λj=>xs[j]?
theorem qZ {n:Nat} {i:Int} {j:Nat} (h:ixN n i=some j):seqIndex? i n=some j/\j < n/\-(n:Int)<=i/\i < n:=by
 unfold ixN at h
 by_cases h0:0<=i
 · rw [if_pos h0] at h
   by_cases h1:i < n
   · rw [if_pos h1] at h
     have e:i.toNat=j:=Option.some.inj h
     exact ⟨by rw [seqIndex_of h0 h1,e],by omega,by omega,h1⟩
   · rw [if_neg h1] at h; cases h
 · rw [if_neg h0] at h
   by_cases h1:-(n:Int)<=i
   · rw [if_pos h1] at h
     have e:(i + n).toNat=j:=Option.some.inj h
     exact ⟨by rw [seqIndex_neg (by omega) h1,e],by omega,h1,by omega⟩
   · rw [if_neg h1] at h; cases h
theorem qV {α:Type} {xs:List α} {i:Int} {v:α} (h:atI xs i=some v):∃ j,seqIndex? i xs.length=some j/\xs[j]?=some v/\j < xs.length/\-(xs.length:Int)<=i/\i < xs.length:=by
 unfold atI at h
 cases e:ixN xs.length i with
 | none=>rw [e] at h; cases h
 | some j=>
   rw [e] at h
   obtain ⟨h1,h2,h3,h4⟩:=qZ e
   exact ⟨j,h1,h,h2,h3,h4⟩
noncomputable def gw (b:Expr):Prop:=∀ o i,subscripted b false o i=operate [o,i] (getItem o i)
noncomputable def IxR (X:Cx) (r:R2):Prop:=
 ∀ (value slice:Expr) (pins:List (Addr × Obj)) (s:Shared) (σ:St) (H:Hp) (x y:V) (v u:Value) (Q:VK),Inv X pins σ H s->RelV x v->RelV y u->r x y H Q ->
   subscripted slice false v u=operate [v,u] (getItem v u)->wpAny (model X.prog X.w) X.A (subscriptTail value slice v u) (EP X pins σ Q) X.xe s
noncomputable def MtR (X:Cx) (id:String) (r:V->List V->Hp->VK->Prop):Prop:=
 ∀ (pins:List (Addr × Obj)) (s:Shared) (σ:St) (H:Hp) (x:V) (xs:List V) (v:Value) (us:List Value) (Q:VK),Inv X pins σ H s->RelV x v->Vals xs us->r x xs H Q ->
   wpAny (model X.prog X.w) X.A (call (.builtin id) (v :: us)) (EP X pins σ Q) X.xe s
section
variable {X:Cx} {a b:Expr} {ta tb:TE} {pos:Pos}
theorem rR {r:R2} (hr:IxR X r) (ha:PE X a ta) (hb:PE X b tb) (hs:gw b):PE X (.Subscript a b pos) (tOp r ta tb):=by
 intro pins s σ H Q I h
 exact Subscript_ (AO ha hb I h λv u s2 x y H2 I2 rx ry q=>hr a b pins s2 σ H2 x y v u Q I2 rx ry q (hs _ _))
noncomputable def Dk (K:PySem.W.Frag):R2:=λx y H Q=>∃ p xs i v,x=.ref p/\y=.int i/\SqL K H p xs/\atI xs i=some v/\Q v H
noncomputable def Dz (K:PySem.W.Frag):R2:=λx y H Q=>∃ p xs i v,x=.ref p/\y=.int i/\SqT K H p xs/\atI xs i=some v/\Q v H
theorem mL:IxR X (Dk X.K):=by
 intro value slice pins s σ H x y v u Q I rx ry h hs
 obtain ⟨p,xs,i,z,rfl,rfl,hq,he,q⟩:=h
 cases rx
 obtain ⟨t,rfl⟩:=ry
 obtain ⟨its,r,pl,hz⟩:=I.list hq
 obtain ⟨j,h1,h2,h3,h4,h5⟩:=qV he
 obtain ⟨w,ew,rw'⟩:=r.get h2
 have hl:=r.length
 have hn:=mJ
 have fin:EP X pins σ Q w s:=⟨z,H,I,rw',q⟩
 by_cases h0:0<=i
 · have hj:i.toNat=j:=by
     rw [seqIndex_of h0 h5] at h1
     exact Option.some.inj h1
   exact item_listR pl.isList h0 (by omega) (by rw [hj]; simpa using ew) fin hs
 · have hj:(i + (its.toArray.size:Int)).toNat=j:=by
     rw [seqIndex_neg (by omega) h4] at h1
     rw [List.size_toArray,<- hl]
     exact Option.some.inj h1
   exact subscriptTail_builtinR (x:=w) pl.isList.typeIs slot_list_getitem.lookup
     (wpAny_getItem_list_neg (Q:=λr s'=>r=w/\EP X pins σ Q r s') pl.isList (by omega) (by rw [List.size_toArray] <;> omega) (by omega) (by rw [hj]; simpa using ew) ⟨rfl,fin⟩) hs
theorem zo:IxR X (Dz X.K):=by
 intro value slice pins s σ H x y v u Q I rx ry h hs
 obtain ⟨p,xs,i,z,rfl,rfl,hq,he,q⟩:=h
 cases rx
 obtain ⟨t,rfl⟩:=ry
 obtain ⟨its,r,pl,hz⟩:=I.tuple hq
 obtain ⟨j,h1,h2,h3,h4,h5⟩:=qV he
 obtain ⟨w,ew,rw'⟩:=r.get h2
 have hl:=r.length
 have hn:=mJ
 have fin:EP X pins σ Q w s:=⟨z,H,I,rw',q⟩
 exact subscriptTail_builtinR (x:=w) pl.typeIs slot_tuple_getitem.lookup
   (getItem_tuple (j:=j) (Q:=λr s'=>r=w/\EP X pins σ Q r s') pl (by omega) (by omega) (by rw [List.size_toArray,<- hl]; exact h1) (by simpa using ew) ⟨rfl,fin⟩) hs
theorem qa (its:List Value) (n j:Nat) (u:Value):Obj.mapSeq (·.setIfInBounds j u) { cls:=.type "list",data:=.seq its.toArray n }={ cls:=.type "list",data:=.seq (its.set j u).toArray n }:=by
 simp [Obj.mapSeq]
theorem Inv.lst {pins:List (Addr × Obj)} {σ:St} {H:Hp} {s:Shared} {p:Addr} {xs:List V} (I:Inv X pins σ H s) (h:H p=some (.lst xs)) :
   ∃ (its:List Value) (n:Nat),Vals xs its/\s.heap.get? p=some { cls:=.type "list",data:=.seq its.toArray n }/\xs.length<=sizeLine:=by
 obtain ⟨z,its,n,r,e⟩:=I.hok p _ h
 exact ⟨its,n,r,e,z⟩
theorem Inv.zC {pins:List (Addr × Obj)} {σ:St} {H:Hp} {s:Shared} {p:Addr} {xs ys:List V} {its its':List Value} {n n':Nat} {f:Obj->Obj} (I:Inv X pins σ H s) (h:H p=some (.lst xs))
   (ho:s.heap.get? p=some { cls:=.type "list",data:=.seq its.toArray n }) (hf:f { cls:=.type "list",data:=.seq its.toArray n }={ cls:=.type "list",data:=.seq its'.toArray n' }) (r:Vals ys its') (hz:ys.length<=sizeLine) (t:Nat) :
   Inv X pins σ (upd H p (.lst ys)) { s with heap:=s.heap.update p f,toks:=t }:=by
 have e:(s.heap.update p f).get? p=some { cls:=.type "list",data:=.seq its'.toArray n' }:=by
   rw [Heap.get?_update_self f ho (by rw [hf] <;> rfl),hf]
 refine I.write (x:=p) (e:=p) (by rw [h]; trivial) (.inl rfl) (λb u hb q=>(Heap.get?_update_other _ _ (Ne.symm hb)).trans q) ⟨_,e⟩ ?_
 exact ⟨hz,its',n',r,e⟩
noncomputable def Cc:V->V->V->Hp->(Hp->Prop)->Prop:=λo i v H Q=>∃ p xs k j,o=.ref p/\i=.int k/\H p=some (.lst xs)/\ixN xs.length k=some j/\Q (upd H p (.lst (xs.set j v)))
theorem set_list:B5 X Cc:=by
 intro pins s σ H o i v ov iv u Q I ro ri rv h
 obtain ⟨p,xs,k,j,rfl,rfl,hp,hj,q⟩:=h
 cases ro
 obtain ⟨t,rfl⟩:=ri
 obtain ⟨its,n,r,ho,hz⟩:=I.lst hp
 obtain ⟨h1,h2,h3,h4⟩:=qZ hj
 have hl:=r.length
 have hn:=mJ
 have I':Inv X pins σ (upd H p (.lst (xs.set j v))) { s with heap:=s.heap.update p (Obj.mapSeq (·.setIfInBounds j u)) }:=
   I.zC hp ho (qa its n j u) (r.set rv j) (by rw [List.length_set]; exact hz) s.toks
 by_cases h0:0<=k
 · have hk:k.toNat=j:=by
     rw [seqIndex_of h0 h4] at h1
     exact Option.some.inj h1
   exact PySem.W.ki_setAt ho h0 (by omega) (by rw [List.size_toArray,<- hl]; exact h4) (by rw [hk]; exact ⟨_,I',q⟩)
 · have hk:(k + (its.toArray.size:Int)).toNat=j:=by
     rw [seqIndex_neg (by omega) h3] at h1
     rw [List.size_toArray,<- hl]
     exact Option.some.inj h1
   exact PySem.W.ki_setBack ho (by omega) (by rw [List.size_toArray,<- hl]; exact h3) (by omega) (by rw [hk]; exact ⟨_,I',q⟩)
theorem nK (lo hi:Option Int) (n:Nat):(sliceBounds lo hi none n).1=((HT.sIx n 0 lo:Nat):Int)/\(sliceBounds lo hi none n).2.1=((HT.sIx n n hi:Nat):Int)/\(sliceBounds lo hi none n).2.2=1:=by
 refine ⟨?_,?_,rfl⟩
 · cases lo with
   | none=>simp [sliceBounds,HT.sIx]
   | some i=>
     simp only [sliceBounds,HT.sIx,Option.getD_none,show (1:Int) > 0 by decide,if_true]
     by_cases h:i < 0
     · simp only [h,if_true] <;> omega
     · simp only [h,if_false] <;> omega
 · cases hi with
   | none=>simp [sliceBounds,HT.sIx]
   | some i=>
     simp only [sliceBounds,HT.sIx,Option.getD_none,show (1:Int) > 0 by decide,if_true]
     by_cases h:i < 0
     · simp only [h,if_true] <;> omega
     · simp only [h,if_false] <;> omega
theorem kX (its:List Value) (lo hi:Option Int):slicePick its.toArray lo hi none=((its.drop (HT.sIx its.length 0 lo)).take (HT.sIx its.length its.length hi - HT.sIx its.length 0 lo)).toArray:=by
 obtain ⟨h1,h2,h3⟩:=nK lo hi its.toArray.size
 unfold slicePick
 rw [h1,h2,h3]
 simp only [sliceRange_one,pick_run,List.size_toArray] <;> rfl
noncomputable def Du (K:PySem.W.Frag):V->Option Int->Option Int->Hp->VK->Prop:=λx lo hi H Q=>∃ a xs,x=.ref a/\SqL K H a xs/\∀ p,H p=none->Q (.ref p) (upd H p (.lst (tF xs lo hi)))
theorem xP:SlR X (Du X.K):=by
 intro pins s σ H x v vl vu lo hi sl Q I rx hs pl pu h
 obtain ⟨a,xs,rfl,hx,q⟩:=h
 cases rx
 obtain ⟨its,r,ht,hz⟩:=I.list hx
 have hlen:=r.length
 refine ⟨"list",_,slot_list_getitem.lookup,ht.isList.typeIs,?_⟩
 refine wpAny_getItem_list_slice ht.isList hs pl pu .none (by simp) ?_ (by rw [List.size_toArray] <;> omega)
 rw [kX,<- hlen]
 refine ⟨.ref s.heap.objs.size,_,I.laid (t':=s.toks) (o:=.lst (tF xs lo hi)) (λb ob q=>Heap.get?_push_of_some _ q) (Nat.le_refl _) ?_,rfl,q _ (I.hok.fresh (Nat.le_refl _))⟩
 exact ⟨Nat.le_trans (oq xs lo hi) hz,_,0,(r.drop (HT.sIx xs.length 0 lo)).take (HT.sIx xs.length xs.length hi - HT.sIx xs.length 0 lo),Heap.get?_push_size _ rfl⟩
theorem g9:fF X (.builtin "len") (λxs H Q=>∃ p ys,xs=[.ref p]/\(SqL X.K H p ys\/SqT X.K H p ys)/\Q (.int ys.length) H):=by
 intro pins s σ H xs us Q I r h
 obtain ⟨p,ys,rfl,hq,q⟩:=h
 obtain ⟨u,rfl,rx⟩:=vals1 r
 cases rx
 have hn:=mJ
 rcases hq with hq | hq
 · obtain ⟨its,r',pl,hz⟩:=I.list hq
   have hlen:=r'.length
   exact Calls.call_len_list pl.isList (by simp only [List.size_toArray] <;> omega) ⟨.int ys.length,H,I.tok _,⟨s.toks + 1,by rw [List.size_toArray,hlen]⟩,q⟩
 · obtain ⟨its,r',pl,hz⟩:=I.tuple hq
   have hlen:=r'.length
   exact len_tuple pl (by simp only [List.size_toArray] <;> omega) ⟨.int ys.length,H,I.tok _,⟨s.toks + 1,by rw [List.size_toArray,hlen]⟩,q⟩
theorem mr:fF X (.type "list") (λxs H Q=>∃ p ys,xs=[.ref p]/\(SqL X.K H p ys\/SqT X.K H p ys)/\∀ l,H l=none->Q (.ref l) (upd H l (.lst ys))):=by
 intro pins s σ H xs us Q I r h
 obtain ⟨p,ys,rfl,hq,q⟩:=h
 obtain ⟨u,rfl,rx⟩:=vals1 r
 cases rx
 have fin:∀ (its:List Value),Vals ys its->ys.length<=sizeLine->∀ (h':Heap) (c':Nat),(∀ b o',s.heap.get? b=some o'->h'.get? b=some o') ->
     h'.get? s.heap.objs.size=some { cls:=.type "list",dict:=none,data:=.seq its.toArray c',slots:=#[] }->EP X pins σ Q (.ref s.heap.objs.size) { s with heap:=h' }:=λits r' hz h' c' kp e=>
   ⟨.ref s.heap.objs.size,_,I.laid (t':=s.toks) kp (Nat.le_refl _) (show bR X.prog X.w _ h' _ (.lst ys) from ⟨hz,its,c',r',e⟩),rfl,q _ (I.hok.fresh (Nat.le_refl _))⟩
 rcases hq with hq | hq
 · obtain ⟨its,r',pl,hz⟩:=I.list hq
   have hlen:=r'.length
   obtain ⟨o,ho,hc,n,hd⟩:=pl.isList
   exact call_list_seq p (.inl rfl) ho hc hd (λh' c' kp e=>fin its r' hz h' c' kp e) (by simp only [List.size_toArray] <;> omega)
 · obtain ⟨its,r',pl,hz⟩:=I.tuple hq
   have hlen:=r'.length
   obtain ⟨o,ho,hc,n,hd⟩:=pl
   exact call_list_seq p (.inr rfl) ho hc hd (λh' c' kp e=>fin its r' hz h' c' kp e) (by simp only [List.size_toArray] <;> omega)
noncomputable def tyV (K:PySem.W.Frag) (T:String) (x:V) (H:Hp):Prop:=match x with
 | .str _=>T = "str"
 | .int _=>T = "int"
 | .ref p=>(T = "list" /\ ∃ xs,SqL K H p xs)\/(T = "tuple" /\ ∃ o,K.lookup p=some o/\o.cls=.type "tuple" /\ o.dict=none) \/
     (T = "dict" /\ ((∃ kvs,H p=some (.dK kvs))\/∃ kvs,H p=some (.dT kvs)))\/(T = "set" /\ ∃ S n,H p=some (.set S n))
 | _=>False
theorem tX {pins:List (Addr × Obj)} {σ:St} {H:Hp} {s:Shared} {T:String} {x:V} {v:Value} (I:Inv X pins σ H s) (r:RelV x v) (ty:tyV X.K T x H) :
   s.TypeIs v T/\∀ a,v=.ref a->∃ ob,s.heap.get? a=some ob/\ob.dict=none:=by
 cases x with
 | str z=>
   obtain ⟨t,rfl⟩:=r
   cases (show T = "str" from ty)
   exact ⟨typeIs_str s z t,λ_ e=>nomatch e⟩
 | int i=>
   obtain ⟨t,rfl⟩:=r
   cases (show T = "int" from ty)
   exact ⟨typeIs_int s i t,λ_ e=>nomatch e⟩
 | ref p=>
   cases r
   rcases ty with ⟨rfl,xs,hq⟩ | ⟨rfl,o,hk,hc,hd⟩ | ⟨rfl,hk⟩ | ⟨rfl,S,n,hk⟩
   · obtain ⟨its,_,pl,_⟩:=I.list hq
     refine ⟨pl.isList.typeIs,λa e=>?_⟩
     cases e
     obtain ⟨o,n,e,c,hd,_⟩:=pl
     exact ⟨o,e,hd⟩
   · refine ⟨⟨o,I.kIn p o hk,hc⟩,λa e=>?_⟩
     cases e
     exact ⟨o,I.kIn _ o hk,hd⟩
   · have z:∃ o,s.heap.get? p=some o/\o.ExactDict:=by
       rcases hk with ⟨kvs,hk⟩ | ⟨kvs,hk⟩
       · obtain ⟨_,_,_,_,o,_,_,e,ex,_⟩:=I.hok p _ hk
         exact ⟨o,e,ex⟩
       · obtain ⟨_,_,_,_,o,_,_,e,ex,_⟩:=I.hok p _ hk
         exact ⟨o,e,ex⟩
     obtain ⟨o,e,ex⟩:=z
     refine ⟨⟨o,e,ex.1⟩,λa e2=>?_⟩
     cases e2
     exact ⟨o,e,ex.2.1⟩
   · obtain ⟨o,_,_,_,e,ex,_⟩:=I.hok p _ hk
     refine ⟨⟨o,e,ex.1⟩,λa e2=>?_⟩
     cases e2
     exact ⟨o,e,ex.2.1⟩
 | _=>exact False.elim ty
noncomputable def DI (K:PySem.W.Frag) (T:String) (r:V->List V->Hp->VK->Prop) (to:TE):TE:=λσ H Q=>to σ H λx H1=>tyV K T x H1/\r x [] H1 Q
noncomputable def tBM (K:PySem.W.Frag) (T:String) (r:V->List V->Hp->VK->Prop) (to:TE) (t:TA):TE:=λσ H Q=>to σ H λx H1=>tyV K T x H1/\t σ H1 λxs H2=>r x xs H2 Q
variable {o e:Expr} {es:List Expr} {to:TE} {t:TA} {name:Str} {apos cpos:Pos} {T id:String} {r:V->List V->Hp->VK->Prop}
theorem AI (pa:PlainAttrs T) (slot:Slot T name id) (hty:typeOf (.builtin id)=pure (.type "method_descriptor")) (hm:MtR X id r) (ho:PE X o to)
   (hbase:attributeBase o name X.env (eval o X.env)=eval o X.env:=by rfl) (hline:(apos.endLine == cpos.line)=true:=by rfl):PE X (.Call (.Attribute o name apos) [] [] cpos) (DI X.K T r to):=by
 intro pins s σ H Q I h
 refine wpAny_Call_method0_late hbase hline (thn (ho pins s σ H _ I h) λv s1 ⟨x,H1,I1,r1,ty,q1⟩=>?_)
 obtain ⟨h1,h2⟩:=tX I1 r1 ty
 exact ⟨T,id,pa,slot,hty,h1,h2,Calls.callWith_builtin rfl (PySem.evalArgs_none (hm pins s1 σ H1 x [] v [] Q I1 r1 .nil q1))⟩
theorem rQ (pa:PlainAttrs T) (slot:Slot T name id) (hty:typeOf (.builtin id)=pure (.type "method_descriptor")) (hm:MtR X id r) (ho:PE X o to) (ha:PA X (e :: es) t)
   (hbase:attributeBase o name X.env (eval o X.env)=eval o X.env:=by rfl)
   (hfew:((backTo cpos (starEach (e :: es) X.env)).all (λx=>!x.1) && (backToKw cpos (keywordEach [] X.env)).all (λx=>x.1.isSome)
     && decide ((e :: es).length + ([]:List Keyword).length + (if ([]:List Keyword).isEmpty then 0 else 1) < 30))=true:=by rfl)
   (hline:(apos.endLine == cpos.line)=true:=by rfl) (hs:starEach (e :: es) X.env=(false,eval e X.env) :: starEach es X.env:=by rfl) (hplain:(backTo cpos (starEach es X.env)).any (·.1)=false:=by rfl) :
   PE X (.Call (.Attribute o name apos) (e :: es) [] cpos) (tBM X.K T r to t):=by
 intro pins s σ H Q I h
 refine wpAny_Call_method_late hbase hfew hline rfl (thn (ho pins s σ H _ I h) λv s1 ⟨x,H1,I1,r1,ty,q1⟩=>?_)
 obtain ⟨h1,h2⟩:=tX I1 r1 ty
 refine ⟨T,id,pa,slot,hty,h1,h2,?_⟩
 have hA:=ha cpos pins s1 σ H1 _ I1 q1
 rw [hs] at hA ⊢
 refine Calls.callWith_builtin (by show (false || (backTo cpos (starEach es X.env)).any (·.1))=false; rw [hplain] <;> rfl) (Calls.evalArgs_plain ?_)
 exact thn hA λus s2 ⟨vs,H2,I2,r2,q2⟩=>hm pins s2 σ H2 x vs v us Q I2 r1 r2 q2
end
noncomputable def MtM (X:Cx) (id:String) (r:V->List V->Hp->VK->Prop):Prop:=
 ∀ (pins:List (Addr × Obj)) (s:Shared) (σ:St) (H:Hp) (x:V) (xs:List V) (v:Value) (us:List Value) (Q:VK),Inv X pins σ H s->RelV x v->Vals xs us->r x xs H Q ->
   wpAny (model X.prog X.w) X.A (call (.builtin id) (v :: us)) (EP X pins σ Q) X.xe s
theorem Vals.one:∀ {x:V} {us:List Value},Vals [x] us->∃ u,us=[u]/\RelV x u
 | _,_,.cons r .nil=>⟨_,rfl,r⟩
theorem Vals.two:∀ {x y:V} {us:List Value},Vals [x,y] us->∃ u v,us=[u,v]/\RelV x u/\RelV y v
 | _,_,_,.cons r (.cons q .nil)=>⟨_,_,rfl,r,q⟩
theorem Vals.zero:∀ {us:List Value},Vals [] us->us=[]
 | _,.nil=>rfl
theorem Vals.eraseIdx:∀ {xs:List V} {us:List Value} (i:Nat),Vals xs us->Vals (xs.eraseIdx i) (us.eraseIdx i)
 | _,_,_,.nil=>.nil
 | _,_,0,.cons _ t=>t
 | _,_,i + 1,.cons r t=>.cons r (Vals.eraseIdx i t)
theorem Vals.rep {xs:List V} {us:List Value} (h:Vals xs us):∀ k:Nat,Vals (List.replicate k xs).flatten (List.replicate k us).flatten
 | 0=>.nil
 | k + 1=>by
   rw [List.replicate_succ,List.replicate_succ,List.flatten_cons,List.flatten_cons]
   exact Vals.append h (Vals.rep h k)
theorem ma {α:Type}:∀ (l:List α) (i:Nat),(l.eraseIdx i).length<=l.length
 | [],_=>Nat.le_refl _
 | _ :: _,0=>Nat.le_succ _
 | _ :: r,i + 1=>Nat.succ_le_succ (ma r i)
theorem foldl_rep (its:List Value):∀ (k:Nat) (acc:List Value),
   List.foldl (λx1 x2=>x1++x2) acc.toArray (List.replicate k its.toArray)=(acc++(List.replicate k its).flatten).toArray
 | 0,acc=>by simp
 | k + 1,acc=>by
   have e:acc.toArray++its.toArray=(acc++its).toArray:=by simp
   have e2:(acc++its)++(List.replicate k its).flatten=acc++(List.replicate (k + 1) its).flatten:=by
     rw [List.replicate_succ,List.flatten_cons,List.append_assoc]
   rw [<- e2,<- foldl_rep its k (acc++its),<- e,List.replicate_succ,List.foldl_cons]
section
variable {X:Cx} {pins:List (Addr × Obj)} {σ:St} {H:Hp} {s:Shared} {l b:Addr} {xs ys zs:List V}
theorem Inv.wI {its its':List Value} {n:Nat} {f:Array Value->Array Value} {t':Nat} (I:Inv X pins σ H s) (hH:H l=some (.lst xs))
   (e:s.heap.get? l=some { cls:=.type "list",data:=.seq its.toArray n }) (hf:f its.toArray=its'.toArray) (hv:Vals ys its') (hz:ys.length<=sizeLine) :
   Inv X pins σ (upd H l (.lst ys)) { s with heap:=s.heap.update l (Obj.mapSeq f),toks:=t' }:=by
 have q:=PySem.IsL.update e f
 rw [hf] at q
 refine I.write (x:=l) (e:=l) (by rw [hH]; exact trivial) (.inl rfl) (λb' u hb hu=>(Heap.get?_update_other s.heap (Obj.mapSeq f) (Ne.symm hb)).trans hu) ⟨_,q⟩ ?_
 exact ⟨hz,its',_,hv,q⟩
theorem Inv.A5 {its:List Value} {t':Nat} (I:Inv X pins σ H s) (hv:Vals ys its) (hz:ys.length<=sizeLine) :
   Inv X pins σ (upd H s.heap.objs.size (.lst ys)) { s with heap:=s.heap.push { cls:=.type "list",data:=.seq its.toArray },toks:=t' }:=
 I.laid (λ_ _ q=>Heap.get?_push_of_some _ q) (Nat.le_refl _) ⟨hz,its,0,hv,Heap.get?_push_size _ rfl⟩
theorem Inv.fresh (I:Inv X pins σ H s):H s.heap.objs.size=none:=I.hok.fresh (Nat.le_refl _)
theorem Inv.wu (I:Inv X pins σ H s) (hH:H l=some (.lst xs)):xs.length<=sizeLine/\∃ (its:List Value) (n:Nat),Vals xs its/\xs.length=its.length/\s.heap.get? l=some { cls:=.type "list",data:=.seq its.toArray n }:=by
 obtain ⟨z,its,n,r,e⟩:=I.hok l _ hH
 exact ⟨z,its,n,r,r.length,e⟩
theorem uz {n:Nat} (h:n<=sizeLine):Builtin.List.listTooLong n=false:=by
 unfold Builtin.List.listTooLong
 exact decide_eq_false (by omega)
end
section
variable {X:Cx}
noncomputable def yg:V->List V->Hp->VK->Prop:=λx vs H Q=>∃ l xs y,x=.ref l/\vs=[y]/\H l=some (.lst xs)/\xs.length < sizeLine/\Q .non (upd H l (.lst (xs++[y])))
theorem gy:MtM X "list.append" yg:=by
 intro pins s σ H x vs v us Q I rx rv h
 obtain ⟨l,xs,y,rfl,rfl,hH,hz,q⟩:=h
 cases rx
 obtain ⟨u,rfl,ru⟩:=rv.one
 obtain ⟨z,its,n,r,hl,e⟩:=I.wu hH
 refine call_meets F.slot_list_append ⟨_,e,rfl⟩ F.entry_list_append (F.args_list_append_2 _ _) (PySem.list_append l its.toArray n u (by rw [List.size_toArray]; omega)) ⟨e,?_⟩
 refine ⟨.non,_,I.wI (its':=its++[u]) hH e (by simp) (r.append (.cons ru .nil)) ?_,rfl,q⟩
 rw [List.length_append,List.length_singleton]
 omega
noncomputable def AW:V->List V->Hp->VK->Prop:=λx vs H Q=>∃ l xs i k y,x=.ref l/\vs=[.int i]/\H l=some (.lst xs)/\-(2 ^ 63)<=i/\i < 2 ^ 63/\seqIndex? i xs.length=some k/\xs[k]?=some y/\Q y (upd H l (.lst (xs.eraseIdx k)))
theorem uZ:MtM X "list.pop" AW:=by
 intro pins s σ H x vs v us Q I rx rv h
 obtain ⟨l,xs,i,k,y,rfl,rfl,hH,h1,h2,hk,hy,q⟩:=h
 cases rx
 obtain ⟨u,rfl,ru⟩:=rv.one
 obtain ⟨t,rfl⟩:=ru
 obtain ⟨z,its,n,r,hl,e⟩:=I.wu hH
 obtain ⟨w,hw,rw'⟩:=r.get hy
 refine call_meets F.slot_list_pop ⟨_,e,rfl⟩ F.entry_list_pop (F.args_list_pop_2 _ _)
   (MeetsSeq.list_pop_at l its.toArray n i t k w (fitsIndex_both h1 h2) (by rw [List.size_toArray,<- hl]; exact hk) (by rw [<- Array.getElem?_toList]; exact hw) (by rw [List.size_toArray]; omega)) ⟨e,?_⟩
 refine ⟨y,_,I.wI (its':=its.eraseIdx k) hH e ?_ (r.eraseIdx k) ?_,rw',q⟩
 · show its.toArray.eraseIdxIfInBounds k=(its.eraseIdx k).toArray
   rw [List.eraseIdxIfInBounds_toArray]
 · have:=ma xs k
   omega
noncomputable def AF:V->List V->Hp->VK->Prop:=λx vs H Q=>∃ l xs,x=.ref l/\vs=[]/\H l=some (.lst xs)/\Q .non (upd H l (.lst []))
theorem wa:MtM X "list.clear" AF:=by
 intro pins s σ H x vs v us Q I rx rv h
 obtain ⟨l,xs,rfl,rfl,hH,q⟩:=h
 cases rx
 have hus:=rv.zero
 subst hus
 obtain ⟨z,its,n,r,hl,e⟩:=I.wu hH
 refine call_meets F.slot_list_clear ⟨_,e,rfl⟩ F.entry_list_clear (F.args_list_clear_1 _) (AutoSeq1.list_clear_list_0 l its.toArray n (by rw [List.size_toArray]; omega)) ⟨e,?_⟩
 exact ⟨.non,_,I.wI (its':=[]) (ys:=[]) hH e rfl .nil (Nat.zero_le _),rfl,q⟩
theorem len_rep {α:Type} (xs:List α) (k:Nat):(List.replicate k xs).flatten.length=k * xs.length:=by
 induction k with
 | zero=>simp
 | succ k ih=>rw [List.replicate_succ,List.flatten_cons,List.length_append,ih,Nat.succ_mul,Nat.add_comm]
end
section
variable {prog:Program} {w:World} {A:Around} {E:Value->Shared->Prop} {s:Shared}
end
section
variable {X:Cx}
end
end L2
namespace Att
open PySem PySem.W PySem.Calls PyProof.Rows
theorem jv {P:Params} {h:Heap}:∀ (ns:List Int) (vs:List Value),WellAll P h vs (ns.map WData.int)->IntsAre vs ns:=by
 intro ns
 induction ns with
 | nil=>
   intro vs w
   rw [List.map_nil] at w
   cases w
   exact .nil
 | cons n ns ih=>
   intro vs w
   rw [List.map_cons] at w
   cases w with
   | cons a b=>
     cases a
     exact .cons _ _ (ih _ b)
theorem sJ {l:OpenLaw} {n:Nat} (hn:l.most=some n) {P:Params} {h:Heap} {args:List WData} {vals:List Value}
   (hpre:l.row.toRowW.claim.pre args=true) (hwl:WellAll P h vals args) :
   ∃ a vs ns,vals=[Value.ref a]/\args=[WData.list (ns.map WData.int)]/\h.get? a=some { cls:=.type "list",data:=.seq vs.toArray }/\IntsAre vs ns/\ns.length<=n:=by
 have hsh:WShape.hasAll [] args [.list .int]=true:=(pre_splitW hpre).1
 have hc:l.pre.holds [] { args:=args }=true:=(pre_splitW hpre).2
 obtain ⟨d,r,rfl,h1,h2⟩:=hasAllW_cons hsh
 obtain rfl:=hasAllW_nil h2
 obtain ⟨xs,rfl,h3⟩:=hasW_list h1
 obtain ⟨ns,rfl⟩:=items_int h3
 have hlen:ns.length<=n:=by
   unfold OpenLaw.pre at hc
   have h4:(WTm.not (.lt (.lit (.int (n:Int))) (.len (.arg 0)))).holds [] { args:=[.list (ns.map .int)] }=true:=by
     have h4:=(holds_andW hc).1
     rw [hn] at h4
     exact h4
   have h5:=condW_of h4 (w_not (w_lt w_lit (w_len_list (w_arg rfl))))
   rw [List.length_map] at h5
   refine Nat.le_of_not_lt λq=>?_
   have q':(n:Int) < ((ns.length:Nat):Int):=by omega
   first
     | (rw [decide_eq_true q'] at h5; exact absurd h5 (by decide))
     | (simp at h5; omega)
 cases hwl with
 | cons w1 w2=>
   cases w2
   cases w1 with
   | list ho hall=>exact ⟨_,_,ns,rfl,rfl,ho,jv ns _ hall,hlen⟩
theorem sT (l:OpenLaw) (args:List WData):l.row.toRowW.claim.post args (.bool true) args=true:=
 postW_of (r:=l.row.toRowW) (X:=(true == true))
   (show WShape.has [] (.bool true) .bool=true by first | rfl | decide | simp [WShape.has,WShape.arms,WShape.armsAll])
   (show (WTm.eq .res (.lit (.bool true))).value [] { args:=args,res:=some (.bool true),after:=args }=some (.bool (true == true)) from w_eq_bool (w_res rfl) w_lit) rfl
theorem pk {l:OpenLaw} {n:Nat} {q:Program} {loose:List Str} {XP:(Str->Option Value)->Heap->Prop} {YP:World->Heap->Prop} {d:DefRec}
   (hn:l.most=some n) (hdf:d.params.defaults=[])
   (call:∀ (w:World) (s₀ s₁:Shared) (mg mb:Str->Option Value) (fa:Addr) (o:Obj) (pm cd doc:Value) (a:Addr) (vs:List Value) (ns:List Int),
     Ground q loose [] XP w s₀ mg mb s₁.heap->YP w s₁.heap ->
     s₁.heap.get? fa=some o->o.data=.func (docDef d.name d.params d.body d.scope pm cd doc)->s₁.heap.CodeRec cd d.name->mg d.name=some (.ref fa) ->
     s₁.heap.get? a=some { cls:=.type "list",data:=.seq vs.toArray }->IntsAre vs ns->ns.length<=n->s₁.gens=#[] ->
     codeAny (model l.prog w) callerA (.call (.ref fa) ⟨[.ref a],[]⟩) (λr s'=>r=.ok (.ret (.bool true))/\OldK s₁.heap s'.heap/\s'.os=s₁.os/\AllBare s'.gens) s₁) :
   WalkO q loose XP YP l.row.toRowW d [] (λf vs=>PySem.call f vs):=by
 intro w s₀ s₁ mg mb G Y fa o pm cd doc dV kV ho hd hcd hD hmg hg args vals as hpre hlay hrd hwl hlo
 obtain rfl:dV=.none:=Dflts.none hD hdf
 obtain rfl:kV=.none:=Dflts.noKw hD
 obtain ⟨a,vs,ns,rfl,rfl,hobj,hints,hlen⟩:=sJ hn hpre hwl
 refine enter_call (codeAny_mono (call w s₀ s₁ mg mb fa o pm cd doc a vs ns G Y ho (fd_plain hd) hcd hmg hobj hints hlen hg) λr s' hq=>?_)
 obtain ⟨rfl,h2,h3,h4⟩:=hq
 exact ⟨.inl ⟨.bool true,.bool true,[],rfl,λ_=>rfl,.bool true,sT l _,λ_=>⟨List.Pairwise.nil,λ_ hm=>(nomatch hm)⟩⟩,h2,h3,h4⟩
section
variable {prog:Program} {w:World} {A:Around} {E:Value->Shared->Prop} {s:Shared} {K:Frag}
end
end Att
namespace L2
open PySem PySem.Spec PyProof.Rows
theorem lj:∀ {vs:List Value} {ns:List Int},IntsAre vs ns->Vals (ns.map V.int) vs
 | _,_,.nil=>.nil
 | _,_,.cons n t h=>.cons ⟨t,rfl⟩ (lj h)
noncomputable def zr (H:Hp):Prop:=∀ b,H b=none\/∃ o xs,H b=some (.frz o (.lst xs))
theorem tP {P:Program} {w:World} {K:PySem.W.Frag} {mg mb:Str->Option Value} {CX:CXT} {k:Nat} {fa a:Addr} {fd:FuncData} {x:Str} {sp:Sp} {s₁:Shared} {vs:List Value} {ns:List Int}
   (KX:K.In s₁.heap) (hns:s₁.heap.Ns mainGlobals mg) (hb:s₁.heap.Ns builtinsNs mb) (hbb:∀ x:Str,x ≠ "__name__" -> mb x=bootBuiltins x) (hlim:s₁.heap.NoLimit) (hg:s₁.gens=#[])
   (ha:s₁.heap.get? a=some { cls:=.type "list",data:=.seq vs.toArray }) (hi:IntsAre vs ns) (hl:ns.length<=sizeLine) (hr:eL k callerA)
   (F:∀ base:Heap,K.In base->base.Ns mainGlobals mg->aN P w K mg base CX k fa fd [x] sp) (hbind:∀ (s:Shared) (u:Value),BindsTo s fd ⟨[u],[]⟩ [(x,u)])
   (hsp:∀ H:Hp,zr H->SqL K H a (ns.map V.int)->sp [.ref a] H (λv _=>v=.bl true) λ_ _ _=>False)
   (hCX:∀ H e s',CX [] H s₁ (λ_ _ _=>False) e s'->False) :
   codeAny (model P w) callerA (.call (.ref fa) ⟨[.ref a],[]⟩) (λr s'=>r=.ok (.ret (.bool true))/\OldK s₁.heap s'.heap/\s'.os=s₁.os/\AllBare s'.gens) s₁:=by
 have rv:=lj hi
 have lenV:=hi.length
 have core:∀ H:Hp,zr H->SqL K H a (ns.map V.int)->HOk P w H s₁.heap->(∀ b,H b ≠ none->b=a)->(H a ≠ none->K.lookup a=none) ->
     codeAny (model P w) callerA (.call (.ref fa) ⟨[.ref a],[]⟩) (λr s'=>r=.ok (.ret (.bool true))/\OldK s₁.heap s'.heap/\s'.os=s₁.os/\AllBare s'.gens) s₁:=by
   intro H hO hS hok hA hK
   have base_of:∀ {b:Addr} {o:Obj},s₁.heap.get? b=some o->H b=none->(nk s₁.heap H).get? b=some o:=λe n=>wj e n
   have noA:∀ {b:Addr} {o:Obj} {es:Array DictEntry} {ep:Nat},s₁.heap.get? b=some o->o.data=.dict es ep->H b=none:=λ{b o es ep} e d=>by
     cases q:H b with
     | none=>rfl
     | some u=>
       have e':b=a:=hA b (by rw [q]; simp)
       subst e'
       rw [ha] at e; cases e
       have d':Data.seq vs.toArray _=Data.dict es ep:=d
       cases d'
   have nsK:∀ {b:Addr} {m:Str->Option Value},s₁.heap.Ns b m->(nk s₁.heap H).Ns b m:=λ{b m} ⟨o,es,ep,e,d,r⟩=>⟨o,es,ep,base_of e (noA e d),d,r⟩
   have hKb:K.In (nk s₁.heap H):=λb o e=>base_of (KX b o e) (by
     cases q:H b with
     | none=>rfl
     | some u=>
       have e':b=a:=hA b (by rw [q]; simp)
       subst e'
       rw [hK (by rw [q]; simp)] at e; cases e)
   have hM:Mod K mg (nk s₁.heap H):=⟨hKb,nsK hns,⟨mb,nsK hb,hbb⟩,let ⟨mc,h1,h2⟩:=hlim; ⟨mc,nsK h1,h2⟩⟩
   have e0:vx P w K mg (nk s₁.heap H) callerA [] s₁ H:=⟨rfl,hM,λb o e=>xh e,Nat.le_of_eq (sF _ _),trivial,λb hb=>absurd (show b ∈ ([]:List Addr) from hb) (by simp),hok,.of_eq hg⟩
   refine codeAny_mono ((F _ hKb (nsK hns)).run callerA [] s₁ H ⟨[.ref a],[]⟩ [.ref a] [.ref a] _ _ hr e0 (hbind s₁ (.ref a)) (.cons rfl .nil) (hsp H hO hS)) λr s' h=>?_
   cases r with
   | error e=>exact (hCX H e s' h).elim
   | ok fl=>
     cases fl with
     | next=>exact False.elim h
     | brk=>exact False.elim h
     | cont=>exact False.elim h
     | ret u=>
       obtain ⟨v,H',os,bare,un,hok',r',q⟩:=h
       have q':v=.bl true:=q
       subst q'
       obtain rfl:u=Value.bool true:=r'
       refine ⟨rfl,OldK.of_keep λb o e=>?_,os,bare⟩
       cases q:H b with
       | none=>exact un.keep b o e q (by intro z; exact absurd (show b ∈ ([]:List Addr) from z) (by simp)) (by simp)
       | some u=>
         rcases hO b with z | ⟨ob,xs,z⟩
         · rw [q] at z; cases z
         · have z2:=un.frzs b ob _ z
           obtain ⟨e1,_⟩:=hok b _ z
           obtain ⟨e2,_⟩:=hok' b _ z2
           rw [e] at e1; cases e1
           exact e2
 cases hk:K.lookup a with
 | some o=>
   have e:=KX a o hk
   rw [ha] at e
   cases e
   refine core (λ_=>none) (λ_=>.inl rfl) (.inr ⟨_,vs.toArray,_,hk,rfl,rfl,rfl,by rw [List.size_toArray,lenV]; exact hl,by simpa using rv⟩) (λb u z=>by have z':(none:Option HO)=some u:=z; cases z') (λb z=>absurd rfl z) λz=>absurd rfl z
 | none=>
   refine core (λb=>if b=a then some (.frz { cls:=.type "list",data:=.seq vs.toArray } (.lst (ns.map V.int))) else none) (λb=>?_) (.inl (.inr ⟨{ cls:=.type "list",data:=.seq vs.toArray },if_pos rfl⟩)) (λb u z=>?_) (λb z=>?_) λ_=>hk
   · by_cases hb:b=a
     · exact .inr ⟨_,_,if_pos hb⟩
     · exact .inl (if_neg hb)
   · by_cases hb:b=a
     · have z':=(if_pos hb).symm.trans z
       cases z'
       subst hb
       exact ⟨ha,by rw [List.length_map]; exact hl,vs,_,rv,ha⟩
     · have z':=(if_neg hb).symm.trans z
       cases z'
   · by_cases hb:b=a
     · exact hb
     · exact absurd (if_neg hb) z
theorem wt {l:PySem.W.OpenLaw} {n k:Nat} {q:Program} {loose:List Str} {XP:(Str->Option Value)->Heap->Prop} {YP:World->Heap->Prop} {d:DefRec} {K:Params->PySem.W.Frag} {CX:World->CXT} {sp:World->Sp} {x:Str}
   (hn:l.most=some n) (hn2:n<=sizeLine) (hdf:d.params.defaults=[]) (hr:eL k callerA)
   (hY:∀ (w:World) (h:Heap),YP w h->(K w.params).In h)
   (F:∀ (w:World) (mg:Str->Option Value) (fa:Addr) (h:Heap),(K w.params).In h->h.Ns mainGlobals mg->mg d.name=some (.ref fa) ->
     ∃ fd:FuncData,(∀ (s:Shared) (u:Value),BindsTo s fd ⟨[u],[]⟩ [(x,u)]) /\
       ∀ base:Heap,(K w.params).In base->base.Ns mainGlobals mg->aN l.prog w (K w.params) mg base (CX w) k fa fd [x] (sp w))
   (hsp:∀ (w:World) (H:Hp) (a:Addr) (ns:List Int),ns.length<=n->zr H->SqL (K w.params) H a (ns.map V.int)->sp w [.ref a] H (λv _=>v=.bl true) λ_ _ _=>False)
   (hCX:∀ (w:World) (H:Hp) (s:Shared) (e:Value) (s':Shared),CX w [] H s (λ_ _ _=>False) e s'->False) :
   PySem.W.WalkO q loose XP YP l.row.toRowW d [] (λf vs=>PySem.call f vs):=by
 refine Att.pk hn hdf λw s₀ s₁ mg mb fa o pm cd doc a vs ns G Y ho hd hcd hmg hobj hints hlen hg=>?_
 have KX:=hY w _ Y
 obtain ⟨fd,hb,hF⟩:=F w mg fa _ KX G.T.g hmg
 exact tP KX G.T.g G.T.b G.T.builtins G.T.nolimit hg hobj hints (Nat.le_trans hlen hn2) hr hF hb (λH hO hS=>hsp w H a ns hlen hO hS) λH e s'=>hCX w H s₁ e s'
noncomputable def cD (s:Stmt):Arguments:=match s with
 | .FunctionDef _ a _ _ _ _ _ _ _ _=>a
 | _=>{ posonlyargs:=[],args:=[],vararg:=none,kwonlyargs:=[],kw_defaults:=[],kwarg:=none,defaults:=[] }
noncomputable def bK (s:Stmt):List Stmt:=match s with
 | .FunctionDef _ _ b _ _ _ _ _ _ _=>b
 | _=>[]
noncomputable def ah (s:Stmt):Scope:=match s with
 | .FunctionDef _ _ _ _ _ _ sc _ _ _=>sc
 | _=>{ kind:=.function,names:=[],isGenerator:=false,isCoroutine:=false }
noncomputable abbrev CX0:CXT:=λ_ _ _ _ _ _=>False
noncomputable abbrev E0:XK:=λ_ _ _=>False
theorem Br {X:Cx}:Passes CX0 X E0:=λ_ _ _ _ _ _ _ h=>h.elim
structure Fun (K:PySem.W.Frag) (x qual:Str) (st:Stmt) (f:Addr) (fd:FuncData):Prop where
 ex:∃ (oc:Value) (od:Option Addr) (dV kV doc pm:Value) (an:Option Addr) (cdv ct:Value) (osl:Array (Option Value)),
   fd=PySem.W.fnOf x qual (cD st) (bK st) (ah st) dV kV doc pm an cdv ct/\K.lookup f=some ⟨oc,od,.func fd,osl⟩/\PySem.W.codeIn K cdv qual=true
 kp:PySem.W.keepIn K (.ref f)=true
section
variable {P:Program} {w:World} {K:PySem.W.Frag} {mg:Str->Option Value} {base:Heap}
theorem Fun.ok {x qual:Str} {st:Stmt} {f:Addr} {fd:FuncData} {N ps:List Str} {k:Nat} {sp:Sp} (F:Fun K x qual st f fd) (S:ax N ps (ah st)) (len:∀ vs H Q E,sp vs H Q E->vs.length=ps.length)
   (hbody:∀ (cdv:Value) (A:Around) (outer:List Env) (s:Shared) (H:Hp) (vs:List V) (Q:VK) (E:XK),eL k (A.deeper (envOfC qual (ah st) s.heap.objs.size f cdv))->sp vs H Q E ->
     ∃ t,PSs (kK CX0 P w K mg base N qual (ah st) f cdv A outer s H E).nox (bK st) t/\t { nx:=λ_ H'=>Q .non H',rt:=Q } (start N vs) H):aN P w K mg base CX0 (k + 1) f fd ps sp:=by
 obtain ⟨oc,od,dV,kV,doc,pm,an,cdv,ct,osl,rfl,lk,hcd⟩:=F.ex
 refine yC lk hcd S len λA outer s H vs Q E hr hsp=>?_
 obtain ⟨t,h,q⟩:=hbody cdv A outer s H vs Q E hr hsp
 exact ⟨t,h.nox,q⟩
theorem Fun.binds {x qual:Str} {st:Stmt} {f:Addr} {fd:FuncData} {ps:List Str} (_:Fun K x qual st f fd) (h:∀ us:List Value,us.length=ps.length->bindArgs fd ⟨us,[]⟩=pure (ps.zip us)):Binds K fd ps []:=.all h
theorem qx {x qual:Str} {st:Stmt} {f:Addr} {oc:Value} {od an:Option Addr} {osl:Array (Option Value)} {dV kV doc pm cdv ct:Value} (l:K.lookup f=some ⟨oc,od,.func (PySem.W.fnOf x qual (cD st) (bK st) (ah st) dV kV doc pm an cdv ct),osl⟩)
   (c:PySem.W.codeIn K cdv qual=true) (k:PySem.W.keepIn K (.ref f)=true):Fun K x qual st f (PySem.W.fnOf x qual (cD st) (bK st) (ah st) dV kV doc pm an cdv ct):=⟨⟨oc,od,dV,kV,doc,pm,an,cdv,ct,osl,rfl,l,c⟩,k⟩
end
theorem lP {n:Nat} (h:n<=1000):n < sizeLine:=Nat.lt_of_le_of_lt h (by decide)
section
variable {X:Cx}
theorem pv (i:Nat) {x:Str} {pos:Pos} (hN:X.N[i]?=some x:=by rfl) (hv:Vis X.env.scope x:=by first | exact Or.inl rfl | exact Or.inr (Or.inl rfl) | exact Or.inr (Or.inr rfl)) (hd:(x == ("__debug__" : Str))=false:=by decide)
   (hcd:(x == ("__classdict__" : Str))=false:=by decide):PE X (.Name x pos) (BL i):=bT hN hv hd hcd
end
theorem ur {A B:Prop} (h:B):if false=true then A else B:=by
 rw [if_neg Bool.false_ne_true]
 exact h
theorem tG {A B:Prop} (h:A):if true=true then A else B:=by
 rw [if_pos rfl]
 exact h
noncomputable def ai (H H':Hp):Prop:=∀ b o,H b=some o->H' b=some o
theorem ai.refl (H:Hp):ai H H:=λ_ _ h=>h
theorem ai.trans {H H1 H2:Hp} (a:ai H H1) (b:ai H1 H2):ai H H2:=λc o h=>b c o (a c o h)
theorem ai.free {H H':Hp} (e:ai H H') {l:Addr} (h:H' l=Option.none):H l=Option.none:=by
 cases q:H l with
 | none=>rfl
 | some o=>
   rw [e l o q] at h
   cases h
theorem ai.seq {K:PySem.W.Frag} {H H':Hp} {a:Addr} {xs:List V} (e:ai H H') (h:SqL K H a xs):SqL K H' a xs:=by
 rcases h with (h | ⟨o,h⟩) | h
 · exact .inl (.inl (e _ _ h))
 · exact .inl (.inr ⟨o,e _ _ h⟩)
 · exact .inr h
end L2
set_option linter.all false
set_option maxRecDepth 100000
namespace Ev
open PySem PySem.Spec PyProof.Rows L2
structure Bx where
 p:PySem.W.Frag->Hp->Addr->Prop
 mono:∀ {K:PySem.W.Frag} {H H':Hp} {a:Addr},ai H H'->p K H a->p K H' a
 isd:∀ {K:PySem.W.Frag} {H:Hp} {a:Addr},p K H a->∃ o:HO,H a=some o/\∀ (P:Program) (w:World) (H':Hp) (h:Heap),bR P w H' h a o->∃ ob,h.get? a=some ob/\ob.cls=.type "dict"
inductive D where
 | non | bl (b:Bool) | int (i:Int) | str (x:Str) | tup (xs:List D) | lst (xs:List D) | box (x:Bx)
noncomputable instance:Inhabited D:=⟨.non⟩
mutual
inductive Den (K:PySem.W.Frag) (H:Hp):V->D->Prop where
 | non:Den K H .non .non
 | bl {b:Bool}:Den K H (.bl b) (.bl b)
 | int {i:Int}:Den K H (.int i) (.int i)
 | str {x:Str}:Den K H (.str x) (.str x)
 | tup {a:Addr} {vs:List V} {ds:List D} (h:SqT K H a vs) (r:aq K H vs ds):Den K H (.ref a) (.tup ds)
 | lst {a:Addr} {vs:List V} {ds:List D} (h:SqL K H a vs) (r:aq K H vs ds):Den K H (.ref a) (.lst ds)
 | box {a:Addr} {x:Bx} (h:x.p K H a):Den K H (.ref a) (.box x)
inductive aq (K:PySem.W.Frag) (H:Hp):List V->List D->Prop where
 | nil:aq K H [] []
 | cons {v:V} {d:D} {vs:List V} {ds:List D} (h:Den K H v d) (r:aq K H vs ds):aq K H (v :: vs) (d :: ds)
end
section
variable {K:PySem.W.Frag} {H H':Hp}
theorem ba (e:ai H H') {a:Addr} {xs:List V} (h:SqT K H a xs):SqT K H' a xs:=by
 rcases h with (h | ⟨o,h⟩) | h
 · exact .inl (.inl (e _ _ h))
 · exact .inl (.inr ⟨o,e _ _ h⟩)
 · exact .inr h
theorem aM (e:ai H H') {a:Addr} {xs:List V} (h:SqL K H a xs):SqL K H' a xs:=e.seq h
mutual
theorem Den.mono (e:ai H H'):∀ {v:V} {d:D},Den K H v d->Den K H' v d
 | _,_,.non=>.non
 | _,_,.bl=>.bl
 | _,_,.int=>.int
 | _,_,.str=>.str
 | _,_,.tup h r=>.tup (ba e h) (aq.mono e r)
 | _,_,.lst h r=>.lst (aM e h) (aq.mono e r)
 | _,_,.box (x:=x) h=>.box (x.mono e h)
theorem aq.mono (e:ai H H'):∀ {vs:List V} {ds:List D},aq K H vs ds->aq K H' vs ds
 | _,_,.nil=>.nil
 | _,_,.cons h r=>.cons (Den.mono e h) (aq.mono e r)
end
theorem aq.length:∀ {vs:List V} {ds:List D},aq K H vs ds->vs.length=ds.length
 | _,_,.nil=>rfl
 | _,_,.cons _ r=>congrArg (· + 1) r.length
theorem aq.get:∀ {vs:List V} {ds:List D} {i:Nat} {d:D},aq K H vs ds->ds[i]?=some d->∃ v,vs[i]?=some v/\Den K H v d
 | _,_,_,_,.nil,e=>by simp at e
 | _,_,0,_,.cons h _,e=>by simp at e; subst e; exact ⟨_,rfl,h⟩
 | _,_,i + 1,d,.cons _ r,e=>by
   obtain ⟨v,h1,h2⟩:=aq.get (i:=i) (d:=d) r (by simpa using e)
   exact ⟨v,by simpa using h1,h2⟩
theorem aq.append:∀ {xs ys:List V} {ds es:List D},aq K H xs ds->aq K H ys es->aq K H (xs++ys) (ds++es)
 | _,_,_,_,.nil,s=>s
 | _,_,_,_,.cons h r,s=>.cons h (aq.append r s)
theorem aq.take:∀ {xs:List V} {ds:List D} (n:Nat),aq K H xs ds->aq K H (xs.take n) (ds.take n)
 | _,_,0,_=>.nil
 | _,_,_ + 1,.nil=>.nil
 | _,_,n + 1,.cons h r=>.cons h (aq.take n r)
theorem aq.drop:∀ {xs:List V} {ds:List D} (n:Nat),aq K H xs ds->aq K H (xs.drop n) (ds.drop n)
 | _,_,0,r=>r
 | _,_,_ + 1,.nil=>.nil
 | _,_,n + 1,.cons _ r=>aq.drop n r
end
noncomputable def aC (i j:Int):Prop:=i.natAbs.log2 < 64\/j.natAbs.log2 < 64\/(i.natAbs.log2 < 1000000/\j.natAbs.log2 < 1000000)
noncomputable def aB (j:Int):Prop:=j ≠ 0/\j.natAbs.log2 < 9000
theorem ak {H:Hp} {p:Addr} (h:H p=none) (o:HO):ai H (upd H p o):=λb u q=>by rw [av (aG q h)]; exact q
noncomputable def Ite (K:PySem.W.Frag) (a:Addr):L2.It:=
 ⟨λi H=>∃ xs x,SqL K H a xs/\xs[i]?=some x,λi H v H'=>∃ p x,H p=none/\v=.ref p/\H'=upd H p (.tup [.int (i:Nat),x])/\∀ xs,SqL K H a xs->xs[i]?=some x,λi H=>∃ xs,SqL K H a xs/\xs.length<=i⟩
theorem sM {P:Program} {w:World} {K:PySem.W.Frag} {ts:List Expr} {q:Nat} {tp:Pos} (a e it:Addr) (hne:e ≠ it) :
   Turn P w K false (.Tuple ts q tp) (Ite K a) [e,it] e (λi h=>(∃ old,IsEnum h e it (i:Nat) old)/\h.IsListIter it a i) where
 mem:=by simp
 obj:=λi h st b hb=>by
   obtain ⟨⟨old,h1⟩,o,h2,h3,h4⟩:=st
   rcases List.mem_cons.mp hb with rfl | hb
   · exact ⟨_,h1,λv z=>nomatch z⟩
   · have z:b=it:=by simpa using hb
     subst z
     exact ⟨o,h2,λv z=>by rw [h4] at z; cases z⟩
 keep:=λi h h' st k=>by
   obtain ⟨⟨old,h1⟩,o,h2,h3,h4⟩:=st
   exact ⟨⟨old,k e (by simp) _ h1⟩,o,k it (by simp) o h2,h3,h4⟩
 item:=by
   intro X hP hw hK hc i pins s σ H E I hf st hg
   subst hP hw hK
   obtain ⟨xs,x,hq,hx⟩:=hg
   obtain ⟨its,rv,p,hz⟩:=I.list hq
   obtain ⟨u,hu,ru⟩:=rv.get hx
   obtain ⟨⟨old,h1⟩,h2⟩:=st
   have fe:=hf e (by simp)
   have fi:=hf it (by simp)
   refine wpAny_pyNext_enum_item h1 h2 p.isList (x:=u) (by simpa using hu) hne λh' g1 g2 g3 g4 g5=>⟨_,rfl,?_⟩
   refine wpAny_letOwnedTupleGo_enum (s:={ s with heap:=h',toks:=s.toks + 1 }) g1 λh2' k1 k2=>?_
   have hn:H s.heap.objs.size=none:=I.hok.fresh (Nat.le_refl _)
   have le1:e < s.heap.objs.size:=Heap.lt_size h1
   have le2:it < s.heap.objs.size:=by obtain ⟨o,z,_⟩:=h2; exact Heap.lt_size z
   have kp:∀ b o,b ≠ e->b ≠ it->s.heap.get? b=some o->h2'.get? b=some o:=λb o b1 b2 z=>(k2.2 b b1).trans (g5 b o b1 b2 z)
   have nt:h2'.get? s.heap.objs.size=some { cls:=.type "tuple",data:=.seq #[.int (i:Nat) s.toks,u] }:=(k2.2 _ (Nat.ne_of_gt le1)).trans g3
   have ne1:∀ b v,H b=some v->b ≠ e:=λb v z q=>by rw [q,fe.1] at z; cases z
   have ne2:∀ b v,H b=some v->b ≠ it:=λb v z q=>by rw [q,fi.1] at z; cases z
   have hok0:HOk X.prog X.w H h2':=λb v z=>(I.hok b v z).fy (λc v' hc' q=>kp c v' (by
       rcases hc' with hc' | hc'
       · rw [hc']; exact ne1 b v z
       · exact ne1 c _ hc') (by
       rcases hc' with hc' | hc'
       · rw [hc']; exact ne2 b v z
       · exact ne2 c _ hc') q) (λ_ q=>q) λ_ _ q=>q
   have hok1:HOk X.prog X.w (upd H s.heap.objs.size (.tup [.int (i:Nat),x])) h2':=λb v z=>by
     by_cases hb:b=s.heap.objs.size
     · subst hb
       rw [aJ] at z; cases z
       exact ⟨(by show 2<=sizeLine; decide),[.int (i:Nat) s.toks,u],.cons ⟨_,rfl⟩ (.cons ru .nil),_,nt,rfl,_,rfl⟩
     · rw [av hb] at z
       exact (hok0 b v z).fy (λc v' _ q=>q) (λc q=>by rw [av (aG q hn)]; exact q) λc ys q=>by rw [av (aG q hn)]; exact q
   have I1:Inv X pins σ (upd H s.heap.objs.size (.tup [.int (i:Nat),x])) { s with heap:=h2',toks:=s.toks + 1 }:=by
     refine I.step (g':=s.gens) (d':=s.drawn) (ch:=[e,it]) (λb hb=>?_) (λb o _ _ hc' z _=>kp b o (λq=>hc' (by simp [q])) (λq=>hc' (by simp [q])) z)
       (λb o _ _ hc' z _=>⟨o.slots,kp b o (λq=>hc' (by simp [q])) (λq=>hc' (by simp [q])) z⟩)
       (λb o hc' z n=>by rw [av (Nat.ne_of_lt (Heap.lt_size z))]; exact n) (λb o hc' z=>⟨o,kp b o (λq=>hc' (by simp [q])) (λq=>hc' (by simp [q])) z⟩)
       (λb ys z=>by rw [av (aG z hn)]; exact z) (λb o u z=>by rw [av (aG z hn)]; exact z) (λb ps z=>⟨#[],by rw [av (aG z hn),z]; simp⟩) (λm hm=>?_) hok1 I.bare
     · rcases List.mem_cons.mp hb with rfl | hb
       · exact ⟨fe.2.2.2.1,fe.2.1,fe.2.2.2.2.1,fe.2.2.2.2.2⟩
       · have z:b=it:=by simpa using hb
         subst z
         exact ⟨fi.2.2.2.1,fi.2.1,fi.2.2.2.2.1,fi.2.2.2.2.2⟩
     · obtain ⟨o,es,ep,ho,r⟩:=hm
       exact ⟨o,es,ep,kp _ o (Ne.symm fe.2.1) (Ne.symm fi.2.1) ho,r⟩
   refine ⟨.ref s.heap.objs.size,_,I1,rfl,⟨s.heap.objs.size,x,hn,rfl,rfl,λys hy=>by rw [I.iF hy hq]; exact hx⟩,⟨⟨_,k1⟩,?_⟩,λb hb=>?_⟩
   · obtain ⟨o,z1,z2,z3⟩:=g2
     exact ⟨o,(k2.2 it (Ne.symm hne)).trans z1,z2,z3⟩
   · rcases List.mem_cons.mp hb with rfl | hb
     · rw [av (Nat.ne_of_lt le1)]; exact fe.1
     · have z:b=it:=by simpa using hb
       subst z
       rw [av (Nat.ne_of_lt le2)]; exact fi.1
 done:=by
   intro X hP hw hK hc i pins s σ H E I hf st hg
   subst hP hw hK
   obtain ⟨xs,hq,hx⟩:=hg
   obtain ⟨its,rv,p,hz⟩:=I.list hq
   obtain ⟨⟨old,h1⟩,h2⟩:=st
   obtain ⟨f0,f1,f2,f3,f4,f5⟩:=hf it (by simp)
   have hl:=rv.length
   exact wpAny_pyNext_enum_end (I.ok.hd hc.calm) h1 h2 p.isList (by simp; omega) λh' eb=>⟨rfl,I.turned (t':=s.toks) (λb o hb z=>eb b o hb z) f0 f1 f3 f4 f5⟩
 self:=λ_ _ _ _ _ st h=>by
   obtain ⟨⟨old,h1⟩,_⟩:=st
   exact wpAny_pyIter_enum h1 h
section
variable {X:Cx}
noncomputable def An (K:PySem.W.Frag) (ta:TA):TI:=λσ H R=>ta σ H λvs H1=>∃ a,vs=[.ref a]/\(∃ xs,SqL K H1 a xs)/\R (Ite K a) H1
theorem tH:bootBuiltins "enumerate" = some (.type "enumerate"):=by decide +kernel
theorem nc {ts:List Expr} {q:Nat} {tp:Pos} {a:Expr} {ta:TA} {p pos:Pos} (hc:X.calm=true) (hg:Gl X "enumerate") (hm:X.mg "enumerate" = none) (ha:PA X [a] ta) (hs:starEach [a] X.env=[(false,eval a X.env)]) :
   PI X (.Tuple ts q tp) (.Call (.Name "enumerate" p) [a] [] pos) (An X.K ta):=by
 intro pins s σ H R I h
 refine Call_ (eY I hg hm tH (PyProof.Rows.callWith_type1 (thn (ha pos pins s σ H _ I h) λus s1 ⟨vs,H1,I1,r1,q1⟩=>?_) hs rfl))
 obtain ⟨l,e,⟨xs,hq⟩,q⟩:=q1
 subst e
 obtain ⟨u,rfl,ru⟩:=vals1 r1
 cases ru
 obtain ⟨its,rv,pl,hz⟩:=I1.list hq
 refine call_enumerate_list pl.isList λh' g1 g2 g3 g4=>?_
 refine wpAny_pyIter_enum (s:={ s1 with heap:=h' }) g1 ?_
 have I2:Inv X pins σ H1 { s1 with heap:=h' }:=I1.kept (t':=s1.toks) g4
 have n1:H1 (s1.heap.objs.size + 1)=none:=I1.hok.fresh (by omega)
 have n2:H1 s1.heap.objs.size=none:=I1.hok.fresh (Nat.le_refl _)
 refine ⟨false,s1.heap.objs.size + 1,[s1.heap.objs.size + 1,s1.heap.objs.size],_,_,H1,rfl,I2,.inl hc,sM l (s1.heap.objs.size + 1) s1.heap.objs.size (Nat.succ_ne_self _),⟨⟨_,g1⟩,g2⟩,λb hb=>?_,q⟩
 rcases List.mem_cons.mp hb with rfl | hb
 · exact I1.oA (by omega) n1
 · have z:b=s1.heap.objs.size:=by simpa using hb
   subst z
   exact I1.oA (Nat.le_refl _) n2
end
noncomputable def Itz (K:PySem.W.Frag) (a b:Addr):L2.It:=
 ⟨λi H=>∃ xs ys x y,SqL K H a xs/\SqL K H b ys/\xs[i]?=some x/\ys[i]?=some y,
  λi H v H'=>∃ p x y,H p=none/\v=.ref p/\H'=upd H p (.tup [x,y])/\(∀ xs,SqL K H a xs->xs[i]?=some x)/\∀ ys,SqL K H b ys->ys[i]?=some y,
  λi H=>∃ xs ys,SqL K H a xs/\SqL K H b ys/\(xs.length<=i\/ys.length<=i)⟩
noncomputable def zSt (a b z TI TO i1 i2:Addr) (i:Nat) (h:Heap):Prop:=
 IsZip h z TI TO .none/\IsPair h TI (.ref i1) (.ref i2)/\(∃ u v,IsPair h TO u v)/\h.IsListIter i1 a i/\h.IsListIter i2 b i
theorem lE {h:Heap} {a b z TI TO i1 i2:Addr} {i:Nat} {xs ys:Array Value} (n:TI ≠ TO) (m:i1 ≠ i2) (s:zSt a b z TI TO i1 i2 i h) (l1:h.IsList a xs) (l2:h.IsList b ys):ZipApart z TI TO i1 i2 a b:=by
 obtain ⟨h1,h2,⟨u,v,h3⟩,⟨o4,h4,c4,d4⟩,⟨o5,h5,c5,d5⟩⟩:=s
 obtain ⟨o6,h6,c6,n6,d6⟩:=l1
 obtain ⟨o7,h7,c7,n7,d7⟩:=l2
 have kk:∀ {x y:Addr} {o p:Obj},h.get? x=some o->h.get? y=some p->o.cls ≠ p.cls->x ≠ y:=λe1 e2 c q=>by subst q; rw [e1] at e2; cases e2; exact c rfl
 have cz:∀ {s t:String},s ≠ t->Value.type s ≠ Value.type t:=λn q=>n (by cases q; rfl)
 refine ⟨kk h2 h1 (cz (by decide)),kk h3 h1 (cz (by decide)),kk h4 h1 ?_,kk h5 h1 ?_,n,kk h2 h4 ?_,kk h2 h5 ?_,kk h3 h4 ?_,kk h3 h5 ?_,m,kk h6 h1 ?_,kk h6 h3 ?_,kk h6 h4 ?_,kk h6 h5 ?_,kk h7 h1 ?_,kk h7 h3 ?_,kk h7 h4 ?_,kk h7 h5 ?_⟩
 all_goals first | (rw [c4]; exact cz (by decide)) | (rw [c5]; exact cz (by decide)) | (rw [c6]; exact cz (by decide)) | (rw [c7]; exact cz (by decide)) | (rw [c6,c4]; exact cz (by decide)) | (rw [c6,c5]; exact cz (by decide)) | (rw [c7,c4]; exact cz (by decide)) | (rw [c7,c5]; exact cz (by decide))
theorem vK {P:Program} {w:World} {K:PySem.W.Frag} {ts:List Expr} {q:Nat} {tp:Pos} (a b z TI TO i1 i2:Addr) (nT:TI ≠ TO) (nI:i1 ≠ i2) :
   Turn P w K false (.Tuple ts q tp) (Itz K a b) [z,TI,TO,i1,i2] z (zSt a b z TI TO i1 i2) where
 mem:=by simp
 obj:=λi h st c hb=>by
   obtain ⟨h1,h2,⟨u,v,h3⟩,⟨o4,h4,c4,d4⟩,⟨o5,h5,c5,d5⟩⟩:=st
   simp only [List.mem_cons,List.not_mem_nil,or_false] at hb
   rcases hb with rfl | rfl | rfl | rfl | rfl
   · exact ⟨_,h1,λv z=>nomatch z⟩
   · exact ⟨_,h2,λv z=>nomatch z⟩
   · exact ⟨_,h3,λv z=>nomatch z⟩
   · exact ⟨_,h4,λv z=>by rw [d4] at z; cases z⟩
   · exact ⟨_,h5,λv z=>by rw [d5] at z; cases z⟩
 keep:=λi h h' st k=>by
   obtain ⟨h1,h2,⟨u,v,h3⟩,⟨o4,h4,c4,d4⟩,⟨o5,h5,c5,d5⟩⟩:=st
   exact ⟨k z (by simp) _ h1,k TI (by simp) _ h2,⟨u,v,k TO (by simp) _ h3⟩,⟨o4,k i1 (by simp) _ h4,c4,d4⟩,⟨o5,k i2 (by simp) _ h5,c5,d5⟩⟩
 item:=by
   intro X hP hw hK hc i pins s σ H E I hf st hg
   subst hP hw hK
   obtain ⟨xs,ys,x,y,hq1,hq2,hx,hy⟩:=hg
   obtain ⟨its1,rv1,p1,hz1⟩:=I.list hq1
   obtain ⟨its2,rv2,p2,hz2⟩:=I.list hq2
   obtain ⟨u1,hu1,ru1⟩:=rv1.get hx
   obtain ⟨u2,hu2,ru2⟩:=rv2.get hy
   have D:=lE nT nI st p1.isList p2.isList
   obtain ⟨h1,h2,⟨u,v,h3⟩,h4,h5⟩:=st
   refine wpAny_pyNext_zip_item D h1 h2 h3 h4 h5 p1.isList p2.isList (x:=u1) (y:=u2) (by simpa using hu1) (by simpa using hu2) λh' g1 g2 g3 g4 g5 g6 g7=>⟨_,rfl,?_⟩
   refine wpAny_letOwnedTupleGo_zip (s:={ s with heap:=h' }) g1 λh2' k1 k2=>?_
   have hn:H s.heap.objs.size=none:=I.hok.fresh (Nat.le_refl _)
   have le1:z < s.heap.objs.size:=Heap.lt_size h1
   have lt2:TI < s.heap.objs.size:=Heap.lt_size h2
   have lt3:TO < s.heap.objs.size:=Heap.lt_size h3
   have lt4:i1 < s.heap.objs.size:=by obtain ⟨o,z,_⟩:=h4; exact Heap.lt_size z
   have lt5:i2 < s.heap.objs.size:=by obtain ⟨o,z,_⟩:=h5; exact Heap.lt_size z
   have kp:∀ c o,c ≠ z->c ≠ TO->c ≠ i1->c ≠ i2->s.heap.get? c=some o->h2'.get? c=some o:=λc o b1 b2 b3 b4 e=>(k2.2 c b1).trans (g7 c o b1 b2 b3 b4 e)
   have nt:IsPair h2' s.heap.objs.size u1 u2:=(k2.2 _ (Nat.ne_of_gt le1)).trans g5
   have ne:∀ c,c ∈ [z,TI,TO,i1,i2]->∀ d v,H d=some v->d ≠ c:=λc hc d v e q=>by
     have:=(hf c hc).1
     rw [q,this] at e; cases e
   have hok0:HOk X.prog X.w H h2':=λd v e=>(I.hok d v e).fy (λc v' hc' q=>kp c v'
       (by rcases hc' with hc' | hc'
           · rw [hc']; exact ne z (by simp) d v e
           · exact ne z (by simp) c _ hc')
       (by rcases hc' with hc' | hc'
           · rw [hc']; exact ne TO (by simp) d v e
           · exact ne TO (by simp) c _ hc')
       (by rcases hc' with hc' | hc'
           · rw [hc']; exact ne i1 (by simp) d v e
           · exact ne i1 (by simp) c _ hc')
       (by rcases hc' with hc' | hc'
           · rw [hc']; exact ne i2 (by simp) d v e
           · exact ne i2 (by simp) c _ hc') q) (λ_ q=>q) λ_ _ q=>q
   have hok1:HOk X.prog X.w (upd H s.heap.objs.size (.tup [x,y])) h2':=λd v e=>by
     by_cases hb:d=s.heap.objs.size
     · subst hb
       rw [aJ] at e; cases e
       exact ⟨(by show 2<=sizeLine; decide),[u1,u2],.cons ru1 (.cons ru2 .nil),_,nt,rfl,_,rfl⟩
     · rw [av hb] at e
       exact (hok0 d v e).fy (λc v' _ q=>q) (λc q=>by rw [av (aG q hn)]; exact q) λc ys q=>by rw [av (aG q hn)]; exact q
   have I1:Inv X pins σ (upd H s.heap.objs.size (.tup [x,y])) { s with heap:=h2' }:=by
     refine I.step (t':=s.toks) (g':=s.gens) (d':=s.drawn) (ch:=[z,TO,i1,i2]) (λc hb=>?_) (λc o _ _ hc' e _=>kp c o (λq=>hc' (by simp [q])) (λq=>hc' (by simp [q])) (λq=>hc' (by simp [q])) (λq=>hc' (by simp [q])) e)
       (λc o _ _ hc' e _=>⟨o.slots,kp c o (λq=>hc' (by simp [q])) (λq=>hc' (by simp [q])) (λq=>hc' (by simp [q])) (λq=>hc' (by simp [q])) e⟩)
       (λc o hc' e n=>by rw [av (Nat.ne_of_lt (Heap.lt_size e))]; exact n) (λc o hc' e=>⟨o,kp c o (λq=>hc' (by simp [q])) (λq=>hc' (by simp [q])) (λq=>hc' (by simp [q])) (λq=>hc' (by simp [q])) e⟩)
       (λc ys e=>by rw [av (aG e hn)]; exact e) (λc o u e=>by rw [av (aG e hn)]; exact e) (λc ps e=>⟨#[],by rw [av (aG e hn),e]; simp⟩) (λm hm=>?_) hok1 I.bare
     · have hb':c ∈ [z,TI,TO,i1,i2]:=by
         simp only [List.mem_cons,List.not_mem_nil,or_false] at hb ⊢
         rcases hb with h | h | h | h <;> simp [h]
       have fe:=hf c hb'
       exact ⟨fe.2.2.2.1,fe.2.1,fe.2.2.2.2.1,fe.2.2.2.2.2⟩
     · obtain ⟨o,es,ep,ho,r⟩:=hm
       exact ⟨o,es,ep,kp _ o (Ne.symm (hf z (by simp)).2.1) (Ne.symm (hf TO (by simp)).2.1) (Ne.symm (hf i1 (by simp)).2.1) (Ne.symm (hf i2 (by simp)).2.1) ho,r⟩
   refine ⟨.ref s.heap.objs.size,_,I1,rfl,⟨s.heap.objs.size,x,y,hn,rfl,rfl,λzs hy'=>by rw [I.iF hy' hq1]; exact hx,λzs hy'=>by rw [I.iF hy' hq2]; exact hy⟩,⟨k1,?_,⟨u1,u2,(k2.2 TO D.TOz).trans g2⟩,?_,?_⟩,λc hb=>?_⟩
   · exact kp TI _ D.TIz D.TITO D.TIi1 D.TIi2 h2
   · obtain ⟨o,z1,z2,z3⟩:=g3
     exact ⟨o,(k2.2 i1 D.i1z).trans z1,z2,z3⟩
   · obtain ⟨o,z1,z2,z3⟩:=g4
     exact ⟨o,(k2.2 i2 D.i2z).trans z1,z2,z3⟩
   · have fc:=(hf c hb).1
     have lt:c < s.heap.objs.size:=by
       simp only [List.mem_cons,List.not_mem_nil,or_false] at hb
       rcases hb with rfl | rfl | rfl | rfl | rfl <;> assumption
     rw [av (Nat.ne_of_lt lt)]
     exact fc
 done:=by
   intro X hP hw hK hc i pins s σ H E I hf st hg
   subst hP hw hK
   obtain ⟨xs,ys,hq1,hq2,hx⟩:=hg
   obtain ⟨its1,rv1,p1,hz1⟩:=I.list hq1
   obtain ⟨its2,rv2,p2,hz2⟩:=I.list hq2
   have D:=lE nT nI st p1.isList p2.isList
   obtain ⟨h1,h2,⟨u,v,h3⟩,h4,h5⟩:=st
   have hl1:=rv1.length
   have hl2:=rv2.length
   refine wpAny_pyNext_zip_end (I.ok.hd hc.calm) D h1 h2 h3 h4 h5 p1.isList p2.isList (by
     rcases hx with hx | hx
     · left; simp; omega
     · right; simp; omega) λh' eb=>⟨rfl,?_⟩
   have ne:∀ c,c ∈ [z,TI,TO,i1,i2]->∀ d v,H d=some v->d ≠ c:=λc hc d v e q=>by
     have:=(hf c hc).1
     rw [q,this] at e; cases e
   have hok0:HOk X.prog X.w H h':=λd v e=>(I.hok d v e).fy (λc v' hc' q=>eb c v'
       (by rcases hc' with hc' | hc'
           · rw [hc']; exact ne z (by simp) d v e
           · exact ne z (by simp) c _ hc')
       (by rcases hc' with hc' | hc'
           · rw [hc']; exact ne TO (by simp) d v e
           · exact ne TO (by simp) c _ hc')
       (by rcases hc' with hc' | hc'
           · rw [hc']; exact ne i1 (by simp) d v e
           · exact ne i1 (by simp) c _ hc')
       (by rcases hc' with hc' | hc'
           · rw [hc']; exact ne i2 (by simp) d v e
           · exact ne i2 (by simp) c _ hc') q) (λ_ q=>q) λ_ _ q=>q
   refine I.step (t':=s.toks) (g':=s.gens) (d':=s.drawn) (ch:=[z,TO,i1,i2]) (λc hb=>?_) (λc o _ _ hc' e _=>eb c o (λq=>hc' (by simp [q])) (λq=>hc' (by simp [q])) (λq=>hc' (by simp [q])) (λq=>hc' (by simp [q])) e)
       (λc o _ _ hc' e _=>⟨o.slots,eb c o (λq=>hc' (by simp [q])) (λq=>hc' (by simp [q])) (λq=>hc' (by simp [q])) (λq=>hc' (by simp [q])) e⟩)
       (λc o hc' e n=>n) (λc o hc' e=>⟨o,eb c o (λq=>hc' (by simp [q])) (λq=>hc' (by simp [q])) (λq=>hc' (by simp [q])) (λq=>hc' (by simp [q])) e⟩)
       (λc ys e=>e) (λc o u e=>e) (λc ps e=>⟨#[],by rw [e]; simp⟩) (λm hm=>?_) hok0 I.bare
   · have hb':c ∈ [z,TI,TO,i1,i2]:=by
       simp only [List.mem_cons,List.not_mem_nil,or_false] at hb ⊢
       rcases hb with h | h | h | h <;> simp [h]
     have fe:=hf c hb'
     exact ⟨fe.2.2.2.1,fe.2.1,fe.2.2.2.2.1,fe.2.2.2.2.2⟩
   · obtain ⟨o,es,ep,ho,r⟩:=hm
     exact ⟨o,es,ep,eb _ o (Ne.symm (hf z (by simp)).2.1) (Ne.symm (hf TO (by simp)).2.1) (Ne.symm (hf i1 (by simp)).2.1) (Ne.symm (hf i2 (by simp)).2.1) ho,r⟩
 self:=λ_ _ _ _ _ st h=>wpAny_pyIter_zip st.1 h
section
variable {X:Cx}
noncomputable def zO (K:PySem.W.Frag) (ta:TA):TI:=λσ H R=>ta σ H λvs H1=>∃ a b,vs=[.ref a,.ref b]/\(∃ xs,SqL K H1 a xs)/\(∃ ys,SqL K H1 b ys)/\R (Itz K a b) H1
theorem pz {ts:List Expr} {q:Nat} {tp:Pos} {a b:Expr} {ta:TA} {p pos:Pos} (hc:X.calm=true) (hg:Gl X "zip") (hm:X.mg "zip" = none) (ha:PA X [a,b] ta) (hs:starEach [a,b] X.env=(false,eval a X.env) :: starEach [b] X.env) (hs2:starEach [b] X.env=[(false,eval b X.env)]) :
   PI X (.Tuple ts q tp) (.Call (.Name "zip" p) [a,b] [] pos) (zO X.K ta):=by
 intro pins s σ H R I h
 refine Call_ (eY I hg hm boot_zip (PyProof.Rows.callWith_type1 (thn (ha pos pins s σ H _ I h) λus s1 ⟨vs,H1,I1,r1,q1⟩=>?_) hs (by rw [hs2]; rfl)))
 obtain ⟨l,l',e,⟨xs,hq1⟩,⟨ys,hq2⟩,q⟩:=q1
 subst e
 obtain ⟨u,u',rfl,ru,ru'⟩:=vals2 r1
 cases ru
 cases ru'
 obtain ⟨its1,rv1,pl1,hz1⟩:=I1.list hq1
 obtain ⟨its2,rv2,pl2,hz2⟩:=I1.list hq2
 refine call_zip_2 pl1.isList pl2.isList λh' g1 g2 g3 g4 g5 g6 g7=>?_
 refine wpAny_pyIter_zip (s:={ s1 with heap:=h' }) g1 ?_
 have I2:Inv X pins σ H1 { s1 with heap:=h' }:=I1.kept (t':=s1.toks) g7
 have nn:∀ j,H1 (s1.heap.objs.size + j)=none:=λj=>I1.hok.fresh (by omega)
 refine ⟨false,s1.heap.objs.size + 4,[s1.heap.objs.size + 4,s1.heap.objs.size + 2,s1.heap.objs.size + 3,s1.heap.objs.size,s1.heap.objs.size + 1],_,_,H1,rfl,I2,.inl hc,vK l l' (s1.heap.objs.size + 4) (s1.heap.objs.size + 2) (s1.heap.objs.size + 3) s1.heap.objs.size (s1.heap.objs.size + 1) (by simp) (Ne.symm (Nat.succ_ne_self _)),⟨g1,g2,⟨_,_,g3⟩,g4,g5⟩,λc hb=>?_,q⟩
 have hb':∃ j,c=s1.heap.objs.size + j:=by
   simp only [List.mem_cons,List.not_mem_nil,or_false] at hb
   rcases hb with h | h | h | h | h
   · exact ⟨_,h⟩
   · exact ⟨_,h⟩
   · exact ⟨_,h⟩
   · exact ⟨0,h⟩
   · exact ⟨_,h⟩
 obtain ⟨j,rfl⟩:=hb'
 exact I1.oA (Nat.le_add_right _ _) (nn j)
end
section
variable {X:Cx} {tg:Expr}
theorem uu:bootBuiltins "reversed" = some (.type "reversed"):=by decide +kernel
end
theorem ux:∀ (names:List (Str × NameKind)) (n:Nat) (acc:List (Str × Addr)) (x:Str) (c:Addr),(cellsFrom n names acc).lookup x=some c->n<=c\/acc.lookup x=some c
 | [],_,_,_,_,h=>.inr h
 | (y,k) :: r,n,acc,x,c,h=>by
   unfold cellsFrom at h
   split at h
   · rcases ux r (n + 1) _ x c h with q | q
     · exact .inl (by omega)
     · rw [List.lookup_cons] at q
       split at q
       · cases q; exact .inl (Nat.le_refl _)
       · exact .inr q
   · exact ux r n acc x c h
theorem kL:∀ (names:List (Str × NameKind)) (n:Nat) (acc:List (Str × Addr)) (x:Str),(x,NameKind.cell) ∉ names->(cellsFrom n names acc).lookup x=acc.lookup x
 | [],_,_,_,_=>rfl
 | (y,k) :: r,n,acc,x,h=>by
   have h1:(x,NameKind.cell) ∉ r:=λz=>h (List.mem_cons_of_mem _ z)
   unfold cellsFrom
   split
   · rename_i hk
     rw [kL r _ _ x h1,List.lookup_cons]
     have:(x == y)=false:=by
       rw [beq_eq_false_iff_ne]
       rintro rfl
       exact h (by rw [eq_of_beq hk]; exact List.mem_cons_self)
     rw [this]
   · exact kL r n acc x h1
theorem nr:∀ (names:List (Str × NameKind)) (n:Nat) (acc:List (Str × Addr)) (x:Str),(x,NameKind.cell) ∈ names->∃ c,(cellsFrom n names acc).lookup x=some c/\n<=c
 | (y,k) :: r,n,acc,x,h=>by
   unfold cellsFrom
   by_cases hr:(x,NameKind.cell) ∈ r
   · split
     · obtain ⟨c,e,l⟩:=nr r (n + 1) ((y,n) :: acc) x hr
       exact ⟨c,e,by omega⟩
     · exact nr r n acc x hr
   · rcases List.mem_cons.mp h with q | q
     · cases q
       rw [if_pos (by rfl),kL r _ _ _ hr]
       exact ⟨n,by simp [List.lookup_cons],Nat.le_refl _⟩
     · exact absurd q hr
theorem qb:∀ (names:List (Str × NameKind)) (n:Nat) (acc:List (Str × Addr)),(∀ x c,acc.lookup x=some c->c < n)->(∀ x y c,acc.lookup x=some c->acc.lookup y=some c->x=y) ->
   ∀ x y c,(cellsFrom n names acc).lookup x=some c->(cellsFrom n names acc).lookup y=some c->x=y
 | [],_,_,_,h=>h
 | (z,k) :: r,n,acc,hl,h=>by
   unfold cellsFrom
   split
   · refine qb r (n + 1) _ (λx c e=>?_) (λx y c e1 e2=>?_)
     · rw [List.lookup_cons] at e
       split at e
       · cases e; exact Nat.lt_succ_self _
       · exact Nat.lt_succ_of_lt (hl x c e)
     · rw [List.lookup_cons] at e1 e2
       split at e1
       · rename_i q1
         cases e1
         split at e2
         · rename_i q2
           exact (eq_of_beq q1).trans (eq_of_beq q2).symm
         · exact absurd (hl y _ e2) (Nat.lt_irrefl _)
       · split at e2
         · cases e2
           exact absurd (hl x _ e1) (Nat.lt_irrefl _)
         · exact h x y c e1 e2
   · exact qb r n acc hl h
theorem nE:∀ (names:List (Str × NameKind)) (h:Heap) (acc:List (Str × Addr)),(∀ x c,acc.lookup x=some c->∃ v,h.IsCell c v)->∀ x c,(cellsFrom h.objs.size names acc).lookup x=some c->∃ v,(pushCells h names).IsCell c v
 | [],_,_,ha,x,c,e=>ha x c e
 | (z,k) :: r,h,acc,ha,x,c,e=>by
   unfold cellsFrom at e
   unfold pushCells
   split at e
   · rename_i hk
     rw [if_pos hk]
     refine nE r _ ((z,h.objs.size) :: acc) (λy d q=>?_) x c (by rw [Heap.size_push]; exact e)
     rw [List.lookup_cons] at q
     split at q
     · cases q
       exact ⟨none,_,Heap.get?_push_size _ rfl,rfl⟩
     · obtain ⟨v,o,ho,hd⟩:=ha y d q
       exact ⟨v,o,Heap.get?_push_of_some _ ho,hd⟩
   · rename_i hk
     rw [if_neg hk]
     exact nE r h acc ha x c e
noncomputable def cS (env:PySem.Env):List (Str × NameKind)->List (Str × Addr)->List (Str × Addr)
 | [],acc=>acc
 | (n,k) :: r,acc=>if k == .free then (match env.cells.lookup n with | some c=>cS env r ((n,c) :: acc) | none=>cS env r acc) else cS env r acc
theorem kg (env:PySem.Env):∀ (names:List (Str × NameKind)) (acc:List (Str × Addr)),(∀ x ∈ names,x.2=.free->∃ c,env.cells.lookup x.1=some c) ->
   (forIn (m:=Sem) names acc λx cs=>do
     let (name,kind):=x
     if kind == .free then do
       let c <- cellOf env name
       pure (ForInStep.yield ((name,c) :: cs))
     else pure (ForInStep.yield cs))=pure (cS env names acc)
 | [],acc,_=>rfl
 | (n,k) :: r,acc,h=>by
   rw [List.forIn_cons]
   unfold cS
   by_cases hk:(k == .free)=true
   · obtain ⟨c,hc⟩:=h (n,k) List.mem_cons_self (eq_of_beq hk)
     simp only [hk,if_true,cellOf,hc,pure_bind]
     exact kg env r _ λx hx=>h x (List.mem_cons_of_mem _ hx)
   · simp only [hk,Bool.false_eq_true,if_false,pure_bind]
     exact kg env r _ λx hx=>h x (List.mem_cons_of_mem _ hx)
theorem q0 {env:PySem.Env} {scope:Scope} (h:∀ x ∈ scope.names,x.2=.free->∃ c,env.cells.lookup x.1=some c):closureFor scope env=pure (cS env scope.names []):=by
 unfold closureFor
 have:=kg env scope.names [] h
 simp only [bind_pure]
 exact this
theorem eS (env:PySem.Env):∀ (names:List (Str × NameKind)) (acc:List (Str × Addr)) (x:Str) (c:Addr),(∀ y d,acc.lookup y=some d->env.cells.lookup y=some d)->(cS env names acc).lookup x=some c->env.cells.lookup x=some c
 | [],_,x,c,ha,h=>ha x c h
 | (n,k) :: r,acc,x,c,ha,h=>by
   unfold cS at h
   split at h
   · split at h
     · rename_i c' hc
       refine eS env r _ x c (λy d q=>?_) h
       rw [List.lookup_cons] at q
       split at q
       · rename_i qq
         cases q
         rw [eq_of_beq qq]; exact hc
       · exact ha y d q
     · exact eS env r acc x c ha h
   · exact eS env r acc x c ha h
theorem de (env:PySem.Env):∀ (names:List (Str × NameKind)) (acc:List (Str × Addr)) (x:Str) (c:Addr),(∀ y d,acc.lookup y=some d->env.cells.lookup y=some d)->env.cells.lookup x=some c->((x,NameKind.free) ∈ names\/acc.lookup x=some c)->(cS env names acc).lookup x=some c
 | [],_,x,c,_,_,h=>h.elim (λz=>absurd z (by simp)) id
 | (n,k) :: r,acc,x,c,ha,hc,h=>by
   unfold cS
   split
   · split
     · rename_i c' hc'
       refine de env r _ x c (λy d q=>?_) hc ?_
       · rw [List.lookup_cons] at q
         split at q
         · rename_i qq
           cases q
           rw [eq_of_beq qq]; exact hc'
         · exact ha y d q
       · by_cases q:x=n
         · subst q
           rw [hc] at hc'; cases hc'
           exact .inr (by simp [List.lookup_cons])
         · rcases h with h | h
           · rcases List.mem_cons.mp h with z | z
             · cases z; exact absurd rfl q
             · exact .inl z
           · refine .inr ?_
             rw [List.lookup_cons,beq_eq_false_iff_ne.mpr q]
             exact h
     · rename_i hc'
       refine de env r acc x c ha hc ?_
       rcases h with h | h
       · rcases List.mem_cons.mp h with z | z
         · cases z; rw [hc] at hc'; cases hc'
         · exact .inl z
       · exact .inr h
   · rename_i hk
     refine de env r acc x c ha hc ?_
     rcases h with h | h
     · rcases List.mem_cons.mp h with z | z
       · cases z; exact absurd rfl hk
       · exact .inl z
     · exact .inr h
theorem lA {M:Model} {A:Around} {E:Value->Shared->Prop} {s:Shared} {scope:Scope} {cl:List (Str × Addr)} {env:PySem.Env} {Q:PySem.Env->Shared->Prop}
   (h:Q (newEnv scope s.heap.objs.size env.globals (cellsFrom (s.heap.objs.size + 1) scope.names cl) env.qual none .none (some env) builtinsNs) { s with heap:=pushCells (s.heap.push { cls:=.type "dict",data:=.dict #[] }) scope.names }) :
   wpAny M A (newFunctionEnv scope env.globals cl [] env.qual none .none (some env)) Q E s:=by
 simp only [newFunctionEnv,Option.isSome_some,if_true]
 refine wpAny_bind (wpAny_alloc ?_)
 refine wpAny_bind (wpAny_layCells _ (λname kind cells=>by cases hkc:kind == NameKind.cell <;> simp [hkc]) _ _ _ _ ?_)
 rw [show ({ s with heap:=s.heap.push { cls:=.type "dict",data:=.dict #[] } }:Shared).heap.objs.size=s.heap.objs.size + 1 from Heap.size_push ..]
 exact wpAny_bind (wpAny_pure (wpAny_pure h))
noncomputable def aH (X:Cx) (s:Shared) (H:Hp) (scope:Scope) (N:List Str) (fp:List Addr):Cx:=
 { prog:=X.prog,w:=X.w,K:=X.K,mg:=X.mg,base:=X.base,A:=X.A,N:=N,s₀:=s,H₀:=H
   env:=compEnvC scope (cellsFrom (s.heap.objs.size + 1 + 1) scope.names (cS X.env scope.names [])) (s.heap.objs.size + 1) X.env
   outer:=X.stack,stack:=X.stack,ex:=fp,fn:=λx=>decide ((x,NameKind.cell) ∈ scope.names),calm:=X.calm,pn:=[],xe:=λ_ _=>False }
noncomputable def fu (σ:L2.St) (caps:List (Option Nat)):L2.St:=caps.map λo=>o.bind λi=>(σ[i]?).join
structure dg (X:Cx) (scope:Scope) (N:List Str) (caps:List (Option Nat)):Prop where
 kind:scope.kind=.function
 loc:∀ x ∈ scope.names,x.2=.local->scope.names.lookup x.1=some .local
 fre:∀ x ∈ scope.names,x.2=.free->X.env.kindOf x.1=some .cell
 one:∀ x,(x,NameKind.free) ∈ scope.names->(x,NameKind.cell) ∉ scope.names
 noboth:∀ x,(x,NameKind.free) ∈ scope.names->(x,NameKind.local) ∉ scope.names
 len:N.length=caps.length + 1
 cap:∀ (j i:Nat),caps[j]?=some (some i)->∃ x,N[j]?=some x/\X.N[i]?=some x/\(x,NameKind.free) ∈ scope.names
 acc:∃ z,N[caps.length]?=some z/\¬ Vis (relabel scope X.env) z
section
variable {X:Cx} {pins:List (Addr × Obj)} {σ:L2.St} {H:Hp} {s:Shared} {scope:Scope} {N:List Str} {caps:List (Option Nat)} {fp:List Addr}
theorem e8 {env:PySem.Env} {x:Str} {names:List (Str × NameKind)} (h:∀ y,(y,NameKind.free) ∈ names->env.kindOf y=some .cell) (hk:env.scope.kind=.function) {k:NameKind}
   (e:(names.map λ(n,k)=>if (k == NameKind.free && env.scope.kind == .function && env.kindOf n == some .cell) then (n,NameKind.cell) else (n,k)).lookup x=some k) :
   (x,k) ∈ names\/((x,NameKind.free) ∈ names/\k=.cell):=by
 induction names with
 | nil=>cases e
 | cons p r ih=>
   obtain ⟨n,q⟩:=p
   rw [List.map_cons] at e
   have hr:∀ y,(y,NameKind.free) ∈ r->env.kindOf y=some .cell:=λy hy=>h y (List.mem_cons_of_mem _ hy)
   have sub:((x,k) ∈ r\/((x,NameKind.free) ∈ r/\k=.cell))->(x,k) ∈ (n,q) :: r\/((x,NameKind.free) ∈ (n,q) :: r/\k=.cell):=λz=>
     z.elim (λy=>.inl (List.mem_cons_of_mem _ y)) λy=>.inr ⟨List.mem_cons_of_mem _ y.1,y.2⟩
   dsimp only at e
   split at e
   · rename_i c
     rw [List.lookup_cons] at e
     split at e
     · rename_i qq
       cases e
       rw [Bool.and_eq_true,Bool.and_eq_true] at c
       rw [eq_of_beq qq,eq_of_beq c.1.1]
       exact .inr ⟨List.mem_cons_self,rfl⟩
     · exact sub (ih hr e)
   · rename_i c
     rw [List.lookup_cons] at e
     split at e
     · rename_i qq
       cases e
       rw [eq_of_beq qq]
       exact .inl List.mem_cons_self
     · exact sub (ih hr e)
theorem gI (I:Inv X pins σ H s) (c:dg X scope N caps):∀ x ∈ scope.names,x.2=.free->∃ d,X.env.cells.lookup x.1=some d:=λx hx hf=>I.ok.has x.1 (.inl (c.fre x hx hf))
theorem oP (I:Inv X pins σ H s) (hf:∀ b ∈ fp,k8 X pins H b) (ho:∀ b ∈ fp,∃ o,s.heap.get? b=some o) (c:dg X scope N caps) :
   Inv (aH X s H scope N fp) [] (fu σ caps++[some (.ref s.heap.objs.size)]) (upd H s.heap.objs.size (.lst []))
     { s with heap:=pushCells ((s.heap.push { cls:=.type "list",data:=.seq ([]:List Value).toArray }).push { cls:=.type "dict",data:=.dict #[] }) scope.names }:=by
 have hcl:∀ x d,(cS X.env scope.names []).lookup x=some d->X.env.cells.lookup x=some d:=λx d=>eS X.env scope.names [] x d (λy d z=>by simp at z)
 have kp:∀ b o,s.heap.get? b=some o->(pushCells ((s.heap.push { cls:=.type "list",data:=.seq ([]:List Value).toArray }).push { cls:=.type "dict",data:=.dict #[] }) scope.names).get? b=some o:=λb o e=>
   pushCells_keeps _ _ b o (Heap.get?_push_of_some _ (Heap.get?_push_of_some _ e))
 have sz2:((s.heap.push { cls:=.type "list",data:=.seq ([]:List Value).toArray }).push { cls:=.type "dict",data:=.dict #[] }).objs.size=s.heap.objs.size + 1 + 1:=by rw [Heap.size_push,Heap.size_push]
 have oldc:∀ x d,X.env.cells.lookup x=some d->d < s.heap.objs.size:=λx d e=>by
   obtain ⟨v,o,q,_⟩:=I.cell x d e
   exact Heap.lt_size q
 have cel:∀ x d,(aH X s H scope N fp).env.cells.lookup x=some d->s.heap.objs.size + 1 + 1<=d\/X.env.cells.lookup x=some d:=λx d e=>by
   rcases ux _ _ _ x d e with q | q
   · exact .inl q
   · exact .inr (hcl x d q)
 have ok:(aH X s H scope N fp).Ok:=by
   refine ⟨I.ok.mod,c.kind,I.ok.glob,I.ok.blt,Nat.le_succ _,?_,?_,?_,I.ok.hd,I.ok.frames,.inl rfl,?_,I.bs,Nat.le_trans I.ok.bsz I.sz,?_,?_,I.stack,I.iw⟩
   · exact qb _ _ _ (λx d e=>Nat.lt_of_lt_of_le (oldc x d (hcl x d e)) (by omega)) λx y d e1 e2=>I.ok.inj x y d (hcl x d e1) (hcl y d e2)
   · intro x hx
     have hfk:∀ y,(y,NameKind.free) ∈ scope.names->X.env.kindOf y=some .cell:=λy hy=>c.fre _ hy rfl
     have fre:(x,NameKind.free) ∈ scope.names->∃ d,(aH X s H scope N fp).env.cells.lookup x=some d:=λhm=>by
       obtain ⟨d,hd⟩:=gI I c _ hm rfl
       exact ⟨d,by
         show (cellsFrom _ scope.names _).lookup x=_
         rw [kL _ _ _ x (c.one x hm)]
         exact de X.env scope.names [] x d (λy e z=>by simp at z) hd (.inl hm)⟩
     have own:(x,NameKind.cell) ∈ scope.names->∃ d,(aH X s H scope N fp).env.cells.lookup x=some d:=λhm=>by
       obtain ⟨d,e,_⟩:=nr scope.names (s.heap.objs.size + 1 + 1) (cS X.env scope.names []) x hm
       exact ⟨d,e⟩
     rcases hx with hx | hx
     · rcases e8 hfk I.ok.kind (show (scope.names.map _).lookup x=some .cell from hx) with q | q
       · exact own q
       · exact fre q.1
     · rcases e8 hfk I.ok.kind (show (scope.names.map _).lookup x=some .free from hx) with q | q
       · exact fre q
       · exact fre q.1
   · intro x d hfn e
     have hm:(x,NameKind.cell) ∈ scope.names:=of_decide_eq_true hfn
     obtain ⟨d',e',l⟩:=nr scope.names (s.heap.objs.size + 1 + 1) (cS X.env scope.names []) x hm
     have e2:(cellsFrom (s.heap.objs.size + 1 + 1) scope.names (cS X.env scope.names [])).lookup x=some d:=e
     rw [e'] at e2; cases e2
     exact Nat.le_trans (Nat.le_trans (Nat.le_succ _) (Nat.le_succ _)) l
   · intro b hb
     obtain ⟨o,q⟩:=ho b hb
     have bl:=Heap.lt_size q
     refine ⟨λz=>?_,λx d e z=>?_⟩
     · have z':b=s.heap.objs.size + 1:=z
       rw [z'] at bl
       exact absurd bl (Nat.not_lt.mpr (Nat.le_succ _))
     · subst z
       rcases cel x d e with q | q
       · exact absurd (Nat.lt_of_lt_of_le bl (Nat.le_trans (Nat.le_trans (Nat.le_succ _) (Nat.le_succ _)) q)) (Nat.lt_irrefl _)
       · exact (hf d hb).2.2.2.2.1 x d q rfl
   · intro b o e hb
     rcases (hf b hb).2.2.2.1 with q | q
     · exact I.ok.noex b o e q
     · have:=Nat.lt_of_lt_of_le (Heap.lt_size e) I.ok.bsz
       exact absurd (Nat.lt_of_lt_of_le this q) (Nat.lt_irrefl _)
   · intro b hb hm
     rcases List.mem_cons.mp (I.kE b hm) with q | q
     · exact (hf b hb).2.1 q
     · exact (hf b hb).2.2.1 q
 have hD:(pushCells ((s.heap.push { cls:=.type "list",data:=.seq ([]:List Value).toArray }).push { cls:=.type "dict",data:=.dict #[] }) scope.names).get? s.heap.objs.size=some { cls:=.type "list",data:=.seq ([]:List Value).toArray }:=
   pushCells_keeps _ _ _ _ (Heap.get?_push_of_some _ (Heap.get?_push_size _ rfl))
 have fr:∀ a,s.heap.objs.size<=a->a ≠ s.heap.objs.size->(upd H s.heap.objs.size (.lst [])) a=none:=λa h1 h2=>by rw [av h2]; exact I.hok.fresh h1
 refine ⟨ok,rfl,I.bare,Un.laid kp (Nat.le_refl _) (I.hok.fresh (Nat.le_refl _)),⟨λ_=>none,?_,λi x v e1 e2 e3=>?_⟩,λx d e=>?_,?_,λx d e=>?_,λp hp=>absurd (show p ∈ ([]:List (Addr × Obj)) from hp) (by simp),?_,?_⟩
 · have:=Heap.Ns.new (s.heap.push { cls:=.type "list",data:=.seq ([]:List Value).toArray }) (.type "dict")
   rw [Heap.size_push] at this
   exact this.keeps (pushCells_keeps _ _)
 · by_cases hi:i < caps.length
   · rw [List.getElem?_append_left (by unfold fu; rw [List.length_map]; exact hi)] at e2
     unfold fu at e2
     rw [List.getElem?_map] at e2
     cases hc:caps[i]? with
     | none=>rw [hc] at e2; cases e2
     | some o=>
       rw [hc] at e2
       cases o with
       | none=>cases e2
       | some j=>
         have e2':(σ[j]?).join=some v:=Option.some.inj e2
         have e4:σ[j]?=some (some v):=by
           cases q:σ[j]? with
           | none=>rw [q] at e2'; cases e2'
           | some y=>rw [q] at e2'; exact congrArg some e2'
         obtain ⟨x',g1,g2,g3⟩:=c.cap i j hc
         rw [show (aH X s H scope N fp).N=N from rfl,g1] at e1
         cases e1
         have hkc:=c.fre _ g3 rfl
         obtain ⟨m,_,hl⟩:=I.loc
         obtain ⟨u,ru,look⟩:=hl j x v g2 e4 (.inr (.inl hkc))
         refine ⟨u,ru,?_⟩
         rcases look with ⟨k,_⟩ | ⟨k,d,hd,hcell⟩
         · rw [hkc] at k; cases k
         · have e5:(aH X s H scope N fp).env.cells.lookup x=some d:=by
             show (cellsFrom _ scope.names _).lookup x=_
             rw [kL _ _ _ x (c.one x g3)]
             exact de X.env scope.names [] x d (λy e z=>by simp at z) hd (.inl g3)
           have hcell':Heap.IsCell (pushCells ((s.heap.push { cls:=.type "list",data:=.seq ([]:List Value).toArray }).push { cls:=.type "dict",data:=.dict #[] }) scope.names) d (some u):=by
             obtain ⟨o,q1,q2⟩:=hcell
             exact ⟨o,kp _ _ q1,q2⟩
           refine .inr ⟨?_,d,e5,hcell'⟩
           rcases e3 with e3 | e3 | e3
           · exfalso
             rcases e8 (λy hy=>c.fre _ hy rfl) I.ok.kind (show (scope.names.map _).lookup x=some .local from e3) with q | q
             · have q1:=c.loc _ q rfl
               exact c.noboth x g3 q
             · cases q.2
           · exact .inl e3
           · exact .inr e3
   · exfalso
     obtain ⟨z,z1,z2⟩:=c.acc
     have hl:i < N.length:=(List.getElem?_eq_some_iff.mp e1).1
     have:i=caps.length:=by have:=c.len; omega
     subst this
     rw [show (aH X s H scope N fp).N=N from rfl,z1] at e1
     cases e1
     exact z2 e3
 · rw [show (aH X s H scope N fp).env.cells=cellsFrom (s.heap.objs.size + 1 + 1) scope.names (cS X.env scope.names []) from rfl,<- sz2] at e
   refine nE scope.names _ _ (λy d' q=>?_) x d e
   obtain ⟨v,o,q1,q2⟩:=I.cell y d' (hcl y d' q)
   exact ⟨v,o,Heap.get?_push_of_some _ (Heap.get?_push_of_some _ q1),q2⟩
 · exact fr _ (Nat.le_succ _) (Nat.succ_ne_self _)
 · rcases cel x d e with q | q
   · exact fr d (by omega) (by intro z; omega)
   · rw [av (Nat.ne_of_lt (oldc x d q))]; exact I.freeC x d q
 · exact I.hok.laid kp (Nat.le_refl _) ⟨Nat.zero_le _,[],0,.nil,hD⟩
 · rw [List.length_append]
   unfold fu
   rw [List.length_map,show (aH X s H scope N fp).N=N from rfl,c.len]
   rfl
end
noncomputable def PTs (X:Cx) (ifs:List Expr) (t:TT):Prop:=
 ∀ (pins:List (Addr × Obj)) (s:Shared) (σ:L2.St) (H:Hp) (Q:Bool->Hp->Prop),Inv X pins σ H s->t σ H Q ->
   wpAny (model X.prog X.w) X.A (forIn ifs true λc r=>if r=true then do let ok <- isTrue c X.env (eval c X.env); pure (ForInStep.yield ok) else pure (ForInStep.yield r)) (TP X pins σ Q) X.xe s
section
variable {prog:Program} {w:World} {A:Around} {R:Result->Shared->Prop} {s:Shared}
theorem kf {elt target iter:Expr} {ifs:List Expr} {scope:Scope} {pos:Pos} {it acc:Value} {env:PySem.Env} (Iv:Nat->Shared->Prop)
   (step:∀ n s,Iv n s->wpAny (model prog w) A (pyNext it) (λr s₁=>match r with
     | none=>R (.ok .next) s₁
     | some v=>wpAny (model prog w) A (letOwnedTupleGo target it v) (λ_ s₀=>wpAny (model prog w) A (assign target env v) (λ_ s₂=>
         wpAny (model prog w) A (forIn ifs true λc r=>if r=true then do let ok <- isTrue c env (eval c env); pure (ForInStep.yield ok) else pure (ForInStep.yield r)) (λok s₃=>
           if ok=true then wpAny (model prog w) A (eval elt env) (λx s₄=>
             wpAny (model prog w) A (call (.builtin "list.append") [acc,x]) (λ_ s₅=>∃ m,m < n/\Iv m s₅) (λ_ _=>False) s₄) (λ_ _=>False) s₃
           else ∃ m,m < n/\Iv m s₃) (λ_ _=>False) s₂) (λ_ _=>False) s₀) (λ_ _=>False) s₁) (λ_ _=>False) s)
   (n:Nat) (h:Iv n s):codeAny (model prog w) A (.compLoop (.ListComp elt [⟨target,iter,ifs,0⟩] scope pos) 0 it acc env) R s:=by
 have no:∀ {α:Type} {t:Sem α} {Q:α->Shared->Prop} {s:Shared} {E:Value->Shared->Prop},wpAny (model prog w) A t Q (λ_ _=>False) s->wpAny (model prog w) A t Q E s:=λh=>wpAny_mono h (λ_ _ q=>q) λ_ _ q=>q.elim
 refine codeAny_loop rfl Iv (λn s hI=>?_) n h
 show wpAny _ A (Sem.onRaise (compTurn (.ListComp elt [⟨target,iter,ifs,0⟩] scope pos) 0 it acc env) (λx=>do noteFrame x env; theTreesLotGoes x)) _ _ s
 refine wpAny_noted ?_
 rw [compTurn_list]
 refine wpAny_bind (wpAny_standAt (wpAny_bind (thn (no (step n s hI)) λr s₁ h₁=>?_)))
 cases r with
 | none=>exact wpAny_pure h₁
 | some v=>
   refine wpAny_bind (thn (no h₁) λ_ s₀ h₀=>wpAny_bind (thn (no h₀) λ_ s₂ h₂=>wpAny_bind (thn (no h₂) λok s₃ h₃=>?_)))
   cases ok with
   | false=>exact wpAny_pure ⟨rfl,h₃⟩
   | true=>exact wpAny_bind (wpAny_bind (thn (no h₃) λx s₄ h₄=>wpAny_bind (thn (no h₄) λ_ s₅ h₅=>wpAny_pure (wpAny_pure ⟨rfl,h₅⟩))))
end
theorem qX {X:Cx} {kd:Bool} {pins:List (Addr × Obj)} {σ:L2.St} {H:Hp} {s:Shared} {scope:Scope} {N:List Str} {fp:List Addr} (h:Ck kd X) (I:Inv X pins σ H s):Ck kd (aH X s H scope N fp):=by
 rcases h with h | ⟨hk,q,o,u,vs,e1,e2,e3,e4⟩
 · exact .inl h
 · exact .inr ⟨hk,q,o,u,vs,e1,I.base.frzs q o u e2,e3,e4⟩
noncomputable def eh (In:TG->TT->TE->Prop) (caps:List (Option Nat)) (wi:TI):TE:=λσ H Q=>wi σ H λJ H1=>∃ g tt te,In g tt te/\∀ D,H1 D=none ->
 ∃ Z:Nat->Nat->L2.St->Hp->Prop,(∃ m,Z 0 m (fu σ caps++[some (.ref D)]) (upd H1 D (.lst [])))/\∀ i m σ' H',Z i m σ' H' ->
   (J.stop i H'/\Q (.ref D) H')\/(J.go i H'/\∀ x H2,J.yld i H' x H2->g x σ' H2 λσ2 H3=>tt σ2 H3 λb H4=>
     if b=true then te σ2 H4 λv H5=>∃ vs m',H5 D=some (.lst vs)/\vs.length < sizeLine/\m' < m/\Z (i + 1) m' σ2 (upd H5 D (.lst (vs++[v]))) else ∃ m',m' < m/\Z (i + 1) m' σ2 H4)
theorem cE {X:Cx} {elt tg iter:Expr} {ifs:List Expr} {scope:Scope} {N:List Str} {caps:List (Option Nat)} {pos:Pos} {wi:TI} {In:TG->TT->TE->Prop} (c:dg X scope N caps) (hi:PI X tg iter wi)
   (hs:∀ x,foldedSetIterable iter X.env x=pure x)
   (hin:∀ g tt te,In g tt te->∀ s H fp,PG (aH X s H scope N fp) tg g/\PTs (aH X s H scope N fp) ifs tt/\PE (aH X s H scope N fp) elt te) :
   PE X (.ListComp elt [⟨tg,iter,ifs,0⟩] scope pos) (eh In caps wi):=by
 intro pins s σ H Q I h
 rw [eval_ListComp]
 have hcl:=q0 (gI I c)
 refine wpAny_comprehension_free (use:=none) (g:=⟨tg,iter,ifs,0⟩) (gs:=[]) rfl hs hcl c.kind c.loc ?_
 show wpAny _ _ (eval iter X.env) _ _ s
 refine thn (hi pins s σ H _ I h) λv s1 h1=>thn h1 λitv s2 h2=>?_
 obtain ⟨kd,it,fp,tn,J,H2,e,I2,hck,T,st2,f2,g,tt,te,hI,q⟩:=h2
 have hc:=qX (scope:=scope) (N:=N) (fp:=fp) hck I2
 subst e
 obtain ⟨Z,⟨m0,z0⟩,turn⟩:=q s2.heap.objs.size (I2.hok.fresh (Nat.le_refl _))
 have ho:∀ b ∈ fp,∃ o,s2.heap.get? b=some o:=λb hb=>let ⟨o,e,_⟩:=T.obj _ _ st2 b hb; ⟨o,e⟩
 have I4:=oP (scope:=scope) (N:=N) (caps:=caps) I2 f2 ho c
 obtain ⟨hg,ht,he⟩:=hin g tt te hI s2 H2 fp
 refine wpAny_newObj_type (lA ?_) (by show 0<=sizeLine; decide)
 have hC:(s2.heap.push { cls:=.type "list",dict:=none,data:=.seq ([]:List Value).toArray }).objs.size=s2.heap.objs.size + 1:=Heap.size_push ..
 dsimp only
 rw [hC]
 have kp:∀ b o,s2.heap.get? b=some o->(pushCells ((s2.heap.push { cls:=.type "list",data:=.seq ([]:List Value).toArray }).push { cls:=.type "dict",data:=.dict #[] }) scope.names).get? b=some o:=λb o e=>
   pushCells_keeps _ _ b o (Heap.get?_push_of_some _ (Heap.get?_push_of_some _ e))
 have st4:tn 0 (pushCells ((s2.heap.push { cls:=.type "list",data:=.seq ([]:List Value).toArray }).push { cls:=.type "dict",data:=.dict #[] }) scope.names):=T.keep _ _ _ st2 λb _ o e=>kp b o e
 have stat:∀ {H':Hp},(∀ b ∈ fp,H' b=none)->∀ b ∈ fp,k8 (aH X s2 H2 scope N fp) [] H' b:=λhn b hb=>
   ⟨hn b hb,(I4.ok.exf b hb).1,I4.ok.exfs b hb,.inl hb,(I4.ok.exf b hb).2,λp hp=>absurd (show p ∈ ([]:List (Addr × Obj)) from hp) (by simp)⟩
 have fr4:∀ b ∈ fp,(upd H2 s2.heap.objs.size (.lst [])) b=none:=λb hb=>by
   obtain ⟨o,e⟩:=ho b hb
   rw [av (Nat.ne_of_lt (Heap.lt_size e))]; exact (f2 b hb).1
 have loop:codeAny (model X.prog X.w) X.A (.compLoop (.ListComp elt [⟨tg,iter,ifs,0⟩] scope pos) 0 (.ref it) (.ref s2.heap.objs.size) (aH X s2 H2 scope N fp).env)
     (compPost (model X.prog X.w) X.A X.xe none (EP X pins σ Q) (.ref s2.heap.objs.size) (s2.heap.objs.size + 1))
     { s2 with heap:=pushCells ((s2.heap.push { cls:=.type "list",data:=.seq ([]:List Value).toArray }).push { cls:=.type "dict",data:=.dict #[] }) scope.names }:=by
   refine kf (λn s'=>∃ i σ' H',Inv (aH X s2 H2 scope N fp) [] σ' H' s'/\tn i s'.heap/\(∀ b ∈ fp,H' b=none)/\Z i n σ' H') ?_ m0 ⟨0,_,_,I4,st4,fr4,z0⟩
   rintro n s3 ⟨i,σ3,H3,I3,st3,fr3,w3⟩
   rcases turn i n σ3 H3 w3 with ⟨stop,qn⟩ | ⟨go,step⟩
   · refine thn (T.done (aH X s2 H2 scope N fp) rfl rfl rfl hc i [] s3 σ3 H3 _ I3 (stat fr3) st3 stop) λr s5 ⟨hr,I5⟩=>?_
     subst hr
     obtain ⟨m,hn,_⟩:=id I5.loc
     refine ⟨m,hn,λh' sb=>⟨.ref s2.heap.objs.size,H3,?_,rfl,qn⟩⟩
     have lt:∀ b o,s2.heap.get? b=some o->b ≠ s2.heap.objs.size + 1:=λb o e=>Nat.ne_of_lt (Nat.lt_succ_of_lt (Heap.lt_size e))
     have u:=I5.base
     have u':Un (frs X.stack) fp H2 H3 s2.heap h':=⟨λb o e n1 n2 n3=>(sb.2 b (lt b o e)).trans (u.keep b o e n1 n2 n3),λb o e n1 n2 n3=>let ⟨sl,z⟩:=u.slot b o e n1 n2 n3; ⟨sl,(sb.2 b (lt b o e)).trans z⟩,
       u.free,λb o e n1=>let ⟨o',z⟩:=u.there b o e n1; ⟨o',(sb.2 b (lt b o e)).trans z⟩,u.tups,u.frzs,u.tbls⟩
     have fC:H3 (s2.heap.objs.size + 1)=none:=I5.free
     refine I2.l5 (s':={ s5 with heap:=h' }) I5.os u' (λb o e=>(I5.hok b o e).fy (λd v hd z=>(sb.2 d ?_).trans z) (λ_ z=>z) λ_ _ z=>z) I5.bare λb hb=>⟨(f2 b hb).2.2.2.1,(f2 b hb).2.1,(f2 b hb).2.2.2.2.1,(f2 b hb).2.2.2.2.2⟩
     rcases hd with hd | hd
     · rw [hd]; exact aG e fC
     · exact aG hd fC
   · refine thn (T.item (aH X s2 H2 scope N fp) rfl rfl rfl hc i [] s3 σ3 H3 _ I3 (stat fr3) st3 go) λr s4 ⟨u,hr,h4⟩=>?_
     subst hr
     refine thn h4 λ_ s5 ⟨x,H5,I5,r5,y5,st5,fr5⟩=>?_
     have I5':=I5.pinned (stat fr5) (T.obj _ _ st5)
     refine thn (hg _ s5 σ3 H5 x u _ I5' r5 (step x H5 y5)) λ_ s6 ⟨σ6,H6,I6,q6⟩=>?_
     have again:∀ {s7:Shared} {σ7:L2.St} {H7:Hp} {m':Nat},Inv (aH X s2 H2 scope N fp) ([]++gR fp s5.heap) σ7 H7 s7->m' < n->Z (i + 1) m' σ7 H7 ->
         ∃ m,m < n/\∃ i σ' H',Inv (aH X s2 H2 scope N fp) [] σ' H' s7/\tn i s7.heap/\(∀ b ∈ fp,H' b=none)/\Z i m σ' H':=λ{s7 σ7 H7 m'} I7 hm z7=>by
       refine ⟨m',hm,i + 1,σ7,H7,I7.eA,T.keep _ _ _ st5 λb hb o e=>(I7.pin (b,o) (List.mem_append_right _ (List.mem_append_right _ (bY hb e)))).1,λb hb=>?_,z7⟩
       obtain ⟨o,e,d⟩:=T.obj _ _ st5 b hb
       exact (I7.pin (b,o) (List.mem_append_right _ (List.mem_append_right _ (bY hb e)))).2.1
     refine thn (ht _ s6 σ6 H6 _ I6 q6) λok s7 ⟨H7,I7,q7⟩=>?_
     cases ok with
     | false=>
       rw [if_neg (by decide)] at q7
       obtain ⟨m',hm,z7⟩:=q7
       exact again I7 hm z7
     | true=>
       rw [if_pos rfl] at q7
       refine thn (he _ s7 σ6 H7 _ I7 q7) λv' s8 ⟨v,H8,I8,r8,vs,m',q8,l8,hm,z8⟩=>?_
       refine thn (gy (X:=aH X s2 H2 scope N fp) _ s8 σ6 H8 (.ref s2.heap.objs.size) [v] (.ref s2.heap.objs.size) [v'] (λ_ H9=>H9=upd H8 s2.heap.objs.size (.lst (vs++[v]))) I8 rfl (.cons r8 .nil) ⟨_,vs,v,rfl,rfl,q8,l8,rfl⟩) λ_ s9 ⟨_,H9,I9,_,e9⟩=>?_
       subst e9
       exact again I9 hm z8
 exact codeAny_compStart_list loop (T.self _ 0 _ _ _ st4 loop)
end Ev
namespace Hy
open PySem PySem.Spec PyProof.Rows L2
open Ev (D Den aq)
open Classical in
noncomputable def hd (H:Hp) (M:Addr->Prop):Hp:=λb=>if M b then none else H b
theorem ao {H:Hp} {M:Addr->Prop} {b:Addr} {o:HO}:hd H M b=some o ↔ ¬ M b/\H b=some o:=by
 unfold hd
 by_cases h:M b
 · rw [if_pos h]; exact ⟨λz=>(nomatch z),λz=>absurd h z.1⟩
 · rw [if_neg h]; exact ⟨λz=>⟨h,z⟩,λz=>z.2⟩
theorem az {H H':Hp} {M M':Addr->Prop} (e:ai H H') (m:∀ b,M' b->M b):ai (hd H M) (hd H' M'):=λb _ h=>ao.mpr ⟨λz=>(ao.mp h).1 (m b z),e b _ (ao.mp h).2⟩
theorem aW {H:Hp} {M:Addr->Prop}:ai (hd H M) H:=λ_ _ h=>(ao.mp h).2
inductive Nd where
 | d (x:D) | l (xs:List Nd) | t (xs:List Nd)
structure Ex where
 p:PySem.W.Frag->Hp->HO->Addr->Prop
 mono:∀ {K:PySem.W.Frag} {G G':Hp} {o:HO} {a:Addr},ai G G'->p K G o a->p K G' o a
 ext:∀ {K:PySem.W.Frag} {G:Hp} {o:HO} {a:Addr},p K G o a->(∃ φ,o=.ext φ)\/(∃ ob φ,o=.frz ob (.ext φ))\/∃ kvs,o=.dK kvs\/∃ ob,o=.frz ob (.dK kvs)
inductive Sl where
 | un | d (x:D) | o (xs:List D) | n (t:Nd) | x (E:Ex)
mutual
inductive bA (K:PySem.W.Frag) (G H:Hp):V->List Addr->Nd->Prop where
 | d {u:V} {x:D} (h:Den K G u x):bA K G H u [] (.d x)
 | l {a:Addr} {vs:List V} {bs:List Addr} {xs:List Nd} (h:H a=some (.lst vs)) (r:aI K G H vs bs xs):bA K G H (.ref a) (a :: bs) (.l xs)
 | t {a:Addr} {vs:List V} {bs:List Addr} {xs:List Nd} (h:H a=some (.tup vs)) (r:aI K G H vs bs xs):bA K G H (.ref a) (a :: bs) (.t xs)
inductive aI (K:PySem.W.Frag) (G H:Hp):List V->List Addr->List Nd->Prop where
 | nil:aI K G H [] [] []
 | cons {v:V} {vs:List V} {b1 b2:List Addr} {s:Nd} {ss:List Nd} (h:bA K G H v b1 s) (r:aI K G H vs b2 ss):aI K G H (v :: vs) (b1++b2) (s :: ss)
end
noncomputable def cj (K:PySem.W.Frag) (G H:Hp) (v:Option V) (bs:List Addr):Sl->Prop
 | .un=>bs=[]
 | .d x=>bs=[]/\∃ u,v=some u/\Den K G u x
 | .o xs=>∃ a vs,bs=[a]/\v=some (.ref a)/\H a=some (.lst vs)/\aq K G vs xs
 | .n t=>bs.Nodup/\∃ u,v=some u/\bA K G H u bs t
 | .x E=>∃ a o,bs=[a]/\v=some (.ref a)/\H a=some o/\E.p K G o a
section
variable {K:PySem.W.Frag} {G G' H H':Hp}
mutual
theorem bA.frame (g:ai G G'):∀ {u:V} {bs:List Addr} {t:Nd},(∀ b ∈ bs,H' b=H b)->bA K G H u bs t->bA K G' H' u bs t
 | _,_,_,_,.d h=>.d (h.mono g)
 | _,_,_,e,.l h r=>.l (by rw [e _ (List.mem_cons_self ..)]; exact h) (aI.frame g (λb hb=>e b (List.mem_cons_of_mem _ hb)) r)
 | _,_,_,e,.t h r=>.t (by rw [e _ (List.mem_cons_self ..)]; exact h) (aI.frame g (λb hb=>e b (List.mem_cons_of_mem _ hb)) r)
theorem aI.frame (g:ai G G'):∀ {vs:List V} {bs:List Addr} {xs:List Nd},(∀ b ∈ bs,H' b=H b)->aI K G H vs bs xs->aI K G' H' vs bs xs
 | _,_,_,_,.nil=>.nil
 | _,_,_,e,.cons h r=>.cons (bA.frame g (λb hb=>e b (List.mem_append_left _ hb)) h) (aI.frame g (λb hb=>e b (List.mem_append_right _ hb)) r)
end
mutual
theorem bA.some_of:∀ {u:V} {bs:List Addr} {t:Nd},bA K G H u bs t->∀ b ∈ bs,∃ o,H b=some o
 | _,_,_,.d _,_,z=>nomatch z
 | _,_,_,.l h r,b,z=>(List.mem_cons.mp z).elim (λe=>e ▸ ⟨_,h⟩) λz=>aI.some_of r b z
 | _,_,_,.t h r,b,z=>(List.mem_cons.mp z).elim (λe=>e ▸ ⟨_,h⟩) λz=>aI.some_of r b z
theorem aI.some_of:∀ {vs:List V} {bs:List Addr} {xs:List Nd},aI K G H vs bs xs->∀ b ∈ bs,∃ o,H b=some o
 | _,_,_,.nil,_,z=>nomatch z
 | _,_,_,.cons h r,b,z=>(List.mem_append.mp z).elim (λz=>bA.some_of h b z) λz=>aI.some_of r b z
end
theorem bA.mono (g:ai G G') (e:ai H H') {u:V} {bs:List Addr} {t:Nd} (h:bA K G H u bs t):bA K G' H' u bs t:=h.frame g λb hb=>by
 obtain ⟨o,q⟩:=h.some_of b hb
 rw [q,e b o q]
theorem cj.mono (g:ai G G') (e:ai H H') {v:Option V} {bs:List Addr}:∀ {s:Sl},cj K G H v bs s->cj K G' H' v bs s
 | .un,h=>h
 | .d _,⟨h,u,e1,h2⟩=>⟨h,u,e1,h2.mono g⟩
 | .o _,⟨a,vs,h1,h2,h3,h4⟩=>⟨a,vs,h1,h2,e _ _ h3,h4.mono g⟩
 | .n _,⟨h0,u,h1,h2⟩=>⟨h0,u,h1,h2.mono g e⟩
 | .x E,⟨a,o,h1,h2,h3,h4⟩=>⟨a,o,h1,h2,e _ _ h3,E.mono g h4⟩
end
noncomputable def own (A:Addr->Prop) (B:Nat->List Addr) (b:Addr):Prop:=A b\/∃ i,b ∈ B i
noncomputable def vw (C:Bool) (A:Addr->Prop) (B:Nat->List Addr):Addr->Prop:=match C with
 | true=>own A B
 | false=>A
structure Sta (K:PySem.W.Frag) (A:Addr->Prop) (H₀:Hp) (τ:List Sl) (B:Nat->List Addr) (σ:L2.St) (H:Hp):Prop where
 same:ai H₀ H
 len:σ.length=τ.length
 sl:∀ i s,τ[i]?=some s->cj K (hd H (own A B)) H (σ[i]?).join (B i) s
 fr:∀ i b,b ∈ B i->H₀ b=none
 uq:∀ i j b,b ∈ B i->b ∈ B j->i=j
 ad:∀ b,A b->∃ o,H₀ b=some o
 bd:∀ i b,b ∈ B i->∃ o,H b=some o
noncomputable def upB (B:Nat->List Addr) (i:Nat) (bs:List Addr):Nat->List Addr:=λj=>if j=i then bs else B j
section
variable {K:PySem.W.Frag} {A:Addr->Prop} {H₀ H H':Hp} {τ:List Sl} {B:Nat->List Addr} {σ:L2.St}
theorem Sta.dm (S:Sta K A H₀ τ B σ H) (b:Addr) (h:own A B b):∃ o,H b=some o:=h.elim (λz=>let ⟨o,q⟩:=S.ad b z; ⟨o,S.same _ _ q⟩) λ⟨i,z⟩=>S.bd i b z
theorem Sta.mono (S:Sta K A H₀ τ B σ H) (e:ai H H'):Sta K A H₀ τ B σ H' where
 same:=S.same.trans e
 len:=S.len
 sl:=λi s h=>(S.sl i s h).mono (az e λ_ z=>z) e
 fr:=S.fr
 uq:=S.uq
 ad:=S.ad
 bd:=λi b h=>let ⟨o,q⟩:=S.bd i b h; ⟨o,e _ _ q⟩
theorem bg {i j:Nat} {bs:List Addr} {b:Addr} (h:b ∈ upB B i bs j):(j=i/\b ∈ bs)\/(j ≠ i/\b ∈ B j):=by
 unfold upB at h
 by_cases e:j=i
 · rw [if_pos e] at h; exact .inl ⟨e,h⟩
 · rw [if_neg e] at h; exact .inr ⟨e,h⟩
theorem Sta.set (S:Sta K A H₀ τ B σ H) (e:ai H H') {i:Nat} {v:V} {s:Sl} {bs:List Addr} (hf:∀ b ∈ bs,H b=none/\∃ o,H' b=some o) (h:cj K (hd H' λb=>own A B b\/b ∈ bs) H' (some v) bs s) :
   Sta K A H₀ (τ.set i s) (upB B i bs) (σ.set i (some v)) H':=by
 have sub:∀ b,own A (upB B i bs) b->own A B b\/b ∈ bs:=λb z=>z.elim (λz=>.inl (.inl z)) λ⟨j,z⟩=>(bg z).elim (λz=>.inr z.2) λz=>.inl (.inr ⟨j,z.2⟩)
 have some_of:∀ b j,b ∈ B j->∃ o,H b=some o:=λb j z=>S.dm b (.inr ⟨j,z⟩)
 refine ⟨S.same.trans e,by rw [List.length_set,List.length_set,S.len],λj t hj=>?_,λj b hb=>?_,λj k b h1 h2=>?_,S.ad,λj b hb=>?_⟩
 · by_cases ej:j=i
   · subst ej
     have hl:j < τ.length:=by
       have:=(List.getElem?_eq_some_iff.mp hj).1
       rwa [List.length_set] at this
     rw [List.getElem?_set_self hl] at hj
     cases hj
     rw [List.getElem?_set_self (by rw [S.len]; exact hl)]
     unfold upB
     rw [if_pos rfl]
     exact h.mono (az (ai.refl _) sub) (ai.refl _)
   · rw [List.getElem?_set_ne (λz=>ej z.symm)] at hj
     rw [List.getElem?_set_ne (λz=>ej z.symm)]
     unfold upB
     rw [if_neg ej]
     have q:=S.sl j t hj
     refine q.mono (λb o z=>?_) e
     obtain ⟨z1,z2⟩:=ao.mp z
     refine ao.mpr ⟨λy=>?_,e _ _ z2⟩
     rcases sub b y with y | y
     · exact z1 y
     · rw [(hf b y).1] at z2; cases z2
 · rcases bg hb with ⟨_,z⟩ | ⟨_,z⟩
   · exact S.same.free (hf b z).1
   · exact S.fr j b z
 · rcases bg h1 with ⟨e1,z1⟩ | ⟨e1,z1⟩ <;> rcases bg h2 with ⟨e2,z2⟩ | ⟨e2,z2⟩
   · exact e1.trans e2.symm
   · obtain ⟨o,q⟩:=some_of b k z2; rw [(hf b z1).1] at q; cases q
   · obtain ⟨o,q⟩:=some_of b j z1; rw [(hf b z2).1] at q; cases q
   · exact S.uq j k b z1 z2
 · rcases bg hb with ⟨_,z⟩ | ⟨_,z⟩
   · exact (hf b z).2
   · obtain ⟨o,q⟩:=S.bd j b z; exact ⟨o,e _ _ q⟩
theorem Sta.less (S:Sta K A H₀ τ B σ H) {i:Nat} {s:Sl} {bs:List Addr} (hb:∀ b ∈ bs,b ∈ B i) (h:∀ G:Hp,ai (hd H (own A B)) G->(∀ b o,b ∈ B i->b ∉ bs->H b=some o->G b=some o)->cj K G H (σ[i]?).join bs s):Sta K A H₀ (τ.set i s) (upB B i bs) σ H:=by
 have sub:∀ b,own A (upB B i bs) b->own A B b:=λb z=>z.elim .inl λ⟨j,z⟩=>(bg z).elim (λz=>.inr ⟨i,hb b z.2⟩) λz=>.inr ⟨j,z.2⟩
 refine ⟨S.same,by rw [List.length_set,S.len],λj t hj=>?_,λj b h=>?_,λj k b h1 h2=>?_,S.ad,λj b h=>(bg h).elim (λz=>S.bd i b (hb b z.2)) λz=>S.bd j b z.2⟩
 · by_cases ej:j=i
   · subst ej
     have hl:j < τ.length:=by
       have:=(List.getElem?_eq_some_iff.mp hj).1
       rwa [List.length_set] at this
     rw [List.getElem?_set_self hl] at hj
     cases hj
     unfold upB
     rw [if_pos rfl]
     refine h _ (az (ai.refl _) sub) λb o z1 z2 z3=>ao.mpr ⟨λy=>?_,z3⟩
     rcases y with y | ⟨m,y⟩
     · obtain ⟨_,q⟩:=S.ad b y
       rw [S.fr j b z1] at q; cases q
     · rcases bg y with ⟨e,y⟩ | ⟨e,y⟩
       · exact z2 y
       · exact e (S.uq m j b y z1)
   · rw [List.getElem?_set_ne (λz=>ej z.symm)] at hj
     unfold upB
     rw [if_neg ej]
     exact (S.sl j t hj).mono (az (ai.refl _) sub) (ai.refl _)
 · rcases bg h with ⟨e,z⟩ | ⟨_,z⟩
   · exact S.fr i b (hb b z)
   · exact S.fr j b z
 · rcases bg h1 with ⟨e1,z1⟩ | ⟨e1,z1⟩ <;> rcases bg h2 with ⟨e2,z2⟩ | ⟨e2,z2⟩
   · exact e1.trans e2.symm
   · exact absurd (S.uq k i b z2 (hb b z1)) e2
   · exact absurd (S.uq j i b z1 (hb b z2)) e1
   · exact S.uq j k b z1 z2
end
end Hy
namespace Hy
open PySem PySem.Spec PyProof.Rows L2
open Ev (D Den aq aC aB ak ba aM)
noncomputable def Fr (H H':Hp) (bs:List Addr):Prop:=∀ b ∈ bs,H b=none/\∃ o,H' b=some o
noncomputable def dE (K:PySem.W.Frag) (C:Bool) (τ:List Sl) (s:Sl):TE:=λσ H Q=>∃ A H₀ B,Sta K A H₀ τ B σ H /\
 ∀ v H' bs,ai H H'->Fr H H' bs->cj K (hd H' λb=>vw C A B b\/b ∈ bs) H' (some v) bs s->Q v H'
noncomputable def dA (K:PySem.W.Frag) (C:Bool) (τ:List Sl) (ds:List D):TA:=λσ H Q=>∃ A H₀ B,Sta K A H₀ τ B σ H /\
 ∀ vs H',ai H H'->aq K (hd H' (vw C A B)) vs ds->Q vs H'
noncomputable def dT (K:PySem.W.Frag) (τ:List Sl) (c:Bool):TT:=λσ H Q=>∃ A H₀ B,Sta K A H₀ τ B σ H/\∀ H',ai H H'->Q c H'
structure Po where
 nx:List Sl->Prop
 rt:Sl->Prop
 bk:List Sl->Prop:=λ_=>False
 ct:List Sl->Prop:=λ_=>False
 xc:Hp->Prop:=λ_=>True
structure Meets (K:PySem.W.Frag) (A:Addr->Prop) (H₀:Hp) (N:Po) (D:Ends):Prop where
 nx:∀ τ B σ H,N.nx τ->Sta K A H₀ τ B σ H->D.nx σ H
 bk:∀ τ B σ H,N.bk τ->Sta K A H₀ τ B σ H->D.bk σ H
 ct:∀ τ B σ H,N.ct τ->Sta K A H₀ τ B σ H->D.ct σ H
 rt:∀ v H bs s,N.rt s->ai H₀ H->Fr H₀ H bs->cj K (hd H λb=>A b\/b ∈ bs) H (some v) bs s->D.rt v H
 xc:∀ H,ai H₀ H->N.xc H
noncomputable def dS (K:PySem.W.Frag) (τ:List Sl) (N:Po):TS:=λD σ H=>∃ A H₀ B,Sta K A H₀ τ B σ H/\Meets K A H₀ N D
theorem peW {X:Cx} {e:Expr} {t t':TE} (h:PE X e t) (f:∀ σ H Q,t' σ H Q->t σ H Q):PE X e t':=λpins s σ H Q I q=>h pins s σ H Q I (f σ H Q q)
theorem ptW {X:Cx} {e:Expr} {t t':TT} (h:PT X e t) (f:∀ σ H Q,t' σ H Q->t σ H Q):PT X e t':=λpins s σ H Q I q=>h pins s σ H Q I (f σ H Q q)
theorem pwW {X:Cx} {e:Expr} {t t':TT} (h:PW X e t) (f:∀ σ H Q,t' σ H Q->t σ H Q):PW X e t':=λwh pins s σ H Q I q=>h wh pins s σ H Q I (f σ H Q q)
theorem paW {X:Cx} {e:List Expr} {t t':TA} (h:PA X e t) (f:∀ σ H Q,t' σ H Q->t σ H Q):PA X e t':=λp pins s σ H Q I q=>h p pins s σ H Q I (f σ H Q q)
theorem psW {X:Cx} {e:Stmt} {t t':TS} (h:PS X e t) (f:∀ D σ H,t' D σ H->t D σ H):PS X e t':=λpins s σ H D I q=>h pins s σ H D I (f D σ H q)
theorem kS {X:Cx} {e:List Stmt} {t t':TS} (h:PSs X e t) (f:∀ D σ H,t' D σ H->t D σ H):PSs X e t':=λpins s σ H D I q=>h pins s σ H D I (f D σ H q)
section
variable {K:PySem.W.Frag} {C:Bool} {τ:List Sl} {A:Addr->Prop} {H₀ H H':Hp} {B:Nat->List Addr} {σ:L2.St} {x y z:D} {Q:VK}
theorem nG {b:Addr} (h:vw C A B b):own A B b:=by
 cases C with
 | true=>exact h
 | false=>exact .inl h
theorem Sta.vd (S:Sta K A H₀ τ B σ H) (b:Addr) (h:vw C A B b):∃ o,H b=some o:=S.dm b (nG h)
theorem aQ (S:Sta K A H₀ τ B σ H) (k:∀ v H',ai H H'->Den K (hd H' (vw C A B)) v x->Q v H'):dE K C τ (.d x) σ H Q:=
 ⟨A,H₀,B,S,λv H' bs e _ ⟨hb,u,eu,h⟩=>by
   cases eu
   exact k v H' e (h.mono (az (ai.refl _) λ_ z=>.inl z))⟩
theorem fU (h:dE K C τ (.d x) σ H Q):∃ A H₀ B,Sta K A H₀ τ B σ H/\∀ v H',ai H H'->Den K (hd H' (vw C A B)) v x->Q v H':=by
 obtain ⟨A,H₀,B,S,k⟩:=h
 exact ⟨A,H₀,B,S,λv H' e d=>k v H' [] e (λ_ z=>nomatch z) ⟨rfl,v,rfl,d.mono (az (ai.refl _) λ_ z=>z.elim id λz=>nomatch z)⟩⟩
theorem eg {ds:List D} {Q:List V->Hp->Prop} (S:Sta K A H₀ τ B σ H) (k:∀ vs H',ai H H'->aq K (hd H' (vw C A B)) vs ds->Q vs H'):dA K C τ ds σ H Q:=⟨A,H₀,B,S,k⟩
theorem qC {M:Addr->Prop} {p:Addr} {o:HO} (hM:∀ b,M b->∃ o,H b=some o) (hp:H p=none):hd (upd H p o) M p=some o:=
 ao.mpr ⟨λz=>(by obtain ⟨o,q⟩:=hM p z; rw [hp] at q; cases q),aJ⟩
mutual
noncomputable def ndD:Nd->D
 | .d x=>x
 | .l xs=>.lst (nH xs)
 | .t xs=>.tup (nH xs)
noncomputable def nH:List Nd->List D
 | []=>[]
 | x :: xs=>ndD x :: nH xs
end
noncomputable def fzD:Sl->Option D
 | .un=>none
 | .d x=>some x
 | .o xs=>some (.lst xs)
 | .n t=>some (ndD t)
 | .x _=>none
mutual
theorem bA.den {G G':Hp} (g:ai G G'):∀ {u:V} {bs:List Addr} {t:Nd},(∀ b ∈ bs,∀ o,H b=some o->G' b=some o)->bA K G H u bs t->Den K G' u (ndD t)
 | _,_,_,_,.d h=>h.mono g
 | _,_,_,e,.l h r=>.lst (SqL.of (e _ (List.mem_cons_self ..) _ h)) (aI.den g (λb hb=>e b (List.mem_cons_of_mem _ hb)) r)
 | _,_,_,e,.t h r=>.tup (SqT.of (e _ (List.mem_cons_self ..) _ h)) (aI.den g (λb hb=>e b (List.mem_cons_of_mem _ hb)) r)
theorem aI.den {G G':Hp} (g:ai G G'):∀ {vs:List V} {bs:List Addr} {xs:List Nd},(∀ b ∈ bs,∀ o,H b=some o->G' b=some o)->aI K G H vs bs xs->aq K G' vs (nH xs)
 | _,_,_,_,.nil=>.nil
 | _,_,_,e,.cons h r=>.cons (bA.den g (λb hb=>e b (List.mem_append_left _ hb)) h) (aI.den g (λb hb=>e b (List.mem_append_right _ hb)) r)
end
theorem cj.den {G G':Hp} {v:Option V} {bs:List Addr} {s:Sl} (h:cj K G H v bs s) (g:ai G G') (hv:∀ b ∈ bs,∀ o,H b=some o->G' b=some o) (e:fzD s=some x):∃ u,v=some u/\Den K G' u x:=by
 cases s with
 | un=>cases e
 | d y=>cases e; obtain ⟨_,u,e,q⟩:=h; exact ⟨u,e,q.mono g⟩
 | o xs=>
   cases e
   obtain ⟨a,vs,rfl,h2,h3,h4⟩:=h
   exact ⟨_,h2,.lst (SqL.of (hv a (List.mem_cons_self ..) _ h3)) (h4.mono g)⟩
 | n t=>
   cases e
   obtain ⟨_,u,e,q⟩:=h
   exact ⟨u,e,q.den g hv⟩
 | x E=>cases e
theorem slot_of {i:Nat} {u:V} (h:(σ[i]?).join=some u):σ[i]?=some (some u):=by
 cases e:σ[i]? with
 | none=>rw [e] at h; cases h
 | some o=>rw [e] at h; exact congrArg some h
end
section
variable {X:Cx} {C:Bool} {τ:List Sl} {x y z:D} {a b e:Expr} {es:List Expr} {pos:Pos}
theorem aa (i:Nat) {n:Str} {x:D} (h:τ[i]?=some (.d x):=by rfl) (hN:X.N[i]?=some n:=by rfl) (hv:Vis X.env.scope n:=by first | exact Or.inl rfl | exact Or.inr (Or.inl rfl) | exact Or.inr (Or.inr rfl))
   (hd:(n == ("__debug__" : Str))=false:=by decide) (hcd:(n == ("__classdict__" : Str))=false:=by decide):PE X (.Name n pos) (dE X.K C τ (.d x)):=peW (bT hN hv hd hcd) λσ H Q q=>by
 obtain ⟨A,H₀,B,S,k⟩:=fU q
 obtain ⟨_,u,e,d⟩:=S.sl i _ h
 exact ⟨u,slot_of e,k u H (ai.refl _) (d.mono (az (ai.refl _) λ_ z=>nG z))⟩
theorem lB {v:V} (h:PE X e (tC v)) (d:∀ H,Den X.K H v x):PE X e (dE X.K C τ (.d x)):=peW h λσ H Q q=>by
 obtain ⟨A,H₀,B,S,k⟩:=fU q
 exact k v H (ai.refl _) (d _)
theorem af {i j}:PE X (.Constant (.int i) j pos) (dE X.K C τ (.d (.int i))):=lB pN λ_=>.int
theorem kW {b j}:PE X (.Constant (.bool b) j pos) (dE X.K C τ (.d (.bl b))):=lB BH λ_=>.bl
theorem qP {j}:PE X (.Constant .none j pos) (dE X.K C τ (.d .non)):=lB zA λ_=>.non
theorem bH {s j}:PE X (.Constant (.str s) j pos) (dE X.K C τ (.d (.str s))):=lB yZ λ_=>.str
theorem vX {n:Str} {i:Int} (hm:∃ t,X.mg n=some (.int i t)) (hg:Gl X n:=by rfl) (hd:(n == ("__debug__" : Str))=false:=by decide):PE X (.Name n pos) (dE X.K C τ (.d (.int i))):=by
 obtain ⟨t,hm⟩:=hm
 exact lB (nF (v:=.int i) hg hm ⟨t,rfl⟩ hd) λ_=>.int
theorem bu {s:Sl} (h:PE X e (dE X.K C τ s)) (hx:fzD s=some x:=by rfl):PE X e (dE X.K C τ (.d x)):=peW h λσ H Q q=>by
 obtain ⟨A,H₀,B,S,k⟩:=fU q
 refine ⟨A,H₀,B,S,λv H' bs e hf q=>?_⟩
 have vd:=S.vd (C:=C)
 obtain ⟨u,e1,d⟩:=q.den (G':=Hy.hd H' (vw C A B)) (az (ai.refl _) λ_ z=>.inl z) (λb hb o ho=>ao.mpr ⟨λz=>(by obtain ⟨_,q⟩:=vd b z; rw [(hf b hb).1] at q; cases q),ho⟩) hx
 cases e1
 exact k v H' e d
noncomputable def flat:D->Bool
 | .tup _=>false
 | .lst _=>false
 | .box _=>false
 | _=>true
theorem fV {K:PySem.W.Frag} {G G':Hp} {v:V} (h:Den K G v x) (f:flat x=true):Den K G' v x:=by
 cases h with
 | non=>exact .non
 | bl=>exact .bl
 | int=>exact .int
 | str=>exact .str
 | tup _ _=>cases f
 | lst _ _=>cases f
 | box _=>cases f
noncomputable def cg (X:Cx) (f:Value->Value->Sem Value) (x y z:D):Prop:=∃ r:R2,OpR X f r /\
 ∀ (M:Addr->Prop) (v w:V) (H:Hp) (Q:VK),(∀ b,M b->∃ o,H b=some o)->Den X.K (hd H M) v x->Den X.K (hd H M) w y->(∀ u H',ai H H'->Den X.K (hd H' M) u z->Q u H')->r v w H Q
theorem two {r:R2} (hr:∀ (M:Addr->Prop) (v w:V) (H:Hp) (Q:VK),(∀ b,M b->∃ o,H b=some o)->Den X.K (hd H M) v x->Den X.K (hd H M) w y->(∀ u H',ai H H'->Den X.K (hd H' M) u z->Q u H')->r v w H Q) :
   ∀ σ H Q,dE X.K C τ (.d z) σ H Q->tOp r (dE X.K C τ (.d x)) (dE X.K C τ (.d y)) σ H Q:=by
 intro σ H Q h
 obtain ⟨A,H₀,B,S,k⟩:=fU h
 refine aQ S λv H1 e1 d1=>aQ (S.mono e1) λw H2 e2 d2=>hr (vw C A B) v w H2 Q ((S.mono e1).mono e2).vd (d1.mono (az e2 λ_ z=>z)) d2 λu H' e3 d3=>k u H' (e1.trans (e2.trans e3)) d3
theorem aw {op:Operator} (ha:PE X a (dE X.K C τ (.d x))) (hb:PE X b (dE X.K C τ (.d y))) (ho:cg X (binaryOp op) x y z):PE X (.BinOp a op b pos) (dE X.K C τ (.d z)):=by
 obtain ⟨r,h1,h2⟩:=ho
 exact peW (vB h1 ha hb) (two h2)
theorem fh {op:CmpOp} (ha:PE X a (dE X.K C τ (.d x))) (hb:PE X b (dE X.K C τ (.d y))) (ho:cg X (compareOp op) x y z) (hm:behindInMarks op b=false:=by first | exact pQ _ | rfl):PE X (.Compare a [op] [b] pos) (dE X.K C τ (.d z)):=by
 obtain ⟨r,h1,h2⟩:=ho
 exact peW (xG h1 ha hb hm) (two h2)
theorem tZ {t:TE} {c:Bool} (h:∀ σ H Q,dE X.K false τ (.d (.bl c)) σ H Q->t σ H Q):∀ σ H Q,dT X.K τ c σ H Q->t σ H λx H'=>∃ k,x=.bl k/\Q k H':=λσ H Q ⟨A,H₀,B,S,k⟩=>
 h σ H _ (aQ S λv H' e d=>by cases d; exact ⟨c,rfl,k H' e⟩)
theorem aZ {op:CmpOp} {c:Bool} (ha:PE X a (dE X.K false τ (.d x))) (hb:PE X b (dE X.K false τ (.d y))) (ho:cg X (compareOp op) x y (.bl c)) (hm:behindInMarks op b=false:=by first | exact pQ _ | rfl):PT X (.Compare a [op] [b] pos) (dT X.K τ c):=by
 obtain ⟨r,h1,h2⟩:=ho
 exact ptW (sh h1 ha hb hm) (tZ (two h2))
theorem bC {c:Bool} (h:PE X e (dE X.K false τ (.d (.bl c)))) (he:∀ whole,isTrue e X.env whole=(do let v <- whole; standAt e.pos; holding [v] (truthy v)):=by intro _; rfl):PT X e (dT X.K τ c):=
 ptW (Aa h he) (tZ λ_ _ _ q=>q)
theorem lH {g:Int->Int->V} {P:Int->Int->Prop} {i j:Int} (hc:P i j) (hz:∀ K H,Den K H (g i j) z):∀ (M:Addr->Prop) (v w:V) (H:Hp) (Q:VK),(∀ b,M b->∃ o,H b=some o)->Den X.K (hd H M) v (.int i)->Den X.K (hd H M) w (.int j) ->
   (∀ u H',ai H H'->Den X.K (hd H' M) u z->Q u H')->rI P g v w H Q:=λ_ v w H Q _ d1 d2 k=>by
 cases d1
 cases d2
 exact ⟨i,j,rfl,rfl,hc,k _ H (ai.refl _) (hz _ _)⟩
theorem jh {g:Int->Int->V} {i j:Int} (hz:∀ K H,Den K H (g i j) z):∀ (M:Addr->Prop) (v w:V) (H:Hp) (Q:VK),(∀ b,M b->∃ o,H b=some o)->Den X.K (hd H M) v (.int i)->Den X.K (hd H M) w (.int j) ->
   (∀ u H',ai H H'->Den X.K (hd H' M) u z->Q u H')->rI0 g v w H Q:=λ_ v w H Q _ d1 d2 k=>by
 cases d1
 cases d2
 exact ⟨i,j,rfl,rfl,k _ H (ai.refl _) (hz _ _)⟩
variable {i j:Int}
theorem bB:cg X (binaryOp .Add) (.int i) (.int j) (.int (i + j)):=⟨_,yU,jh λ_ _=>.int⟩
theorem cY:cg X (binaryOp .Sub) (.int i) (.int j) (.int (i - j)):=⟨_,zj,jh λ_ _=>.int⟩
theorem BQ:cg X (binaryOp .BitAnd) (.int i) (.int j) (.int (Builtin.bitAnd i j)):=⟨_,zp,jh λ_ _=>.int⟩
theorem DK:cg X (binaryOp .BitOr) (.int i) (.int j) (.int (Builtin.bitOr i j)):=⟨_,AZ,jh λ_ _=>.int⟩
theorem aC.ok' {i j:Int} (h:aC i j):IntMulOk i j:=by
 have b:∀ {k:Int} {n:Nat},k.natAbs.log2 < n->Builtin.Int.intBits k<=n:=λ{k n} q=>by
   unfold Builtin.Int.intBits
   split
   · exact Nat.zero_le _
   · exact q
 rcases h with h | h | ⟨h1,h2⟩
 · exact .of_left (b h)
 · exact .of_right (b h)
 · exact .of_bits (Nat.le_trans (b h1) (by decide)) (Nat.le_trans (b h2) (by decide))
theorem aU (h:aC i j):cg X (binaryOp .Mult) (.int i) (.int j) (.int (i * j)):=⟨rI aC λi j=>.int (i * j),opI λ_ _ _ _ _ _ _ hc q=>mul_int q (aC.ok' hc),lH h λ_ _=>.int⟩
theorem a9 (h:aB j):cg X (binaryOp .FloorDiv) (.int i) (.int j) (.int (i.fdiv j)):=⟨rI (λ_ j=>aB j) λi j=>.int (i.fdiv j),opI λ_ _ _ _ _ _ _ hc q=>floordiv_int hc.1 q (.inl (PyProof.noPylong_of_log2 hc.2)),lH h λ_ _=>.int⟩
theorem b7 (h:j ≠ 0):cg X (binaryOp .Mod) (.int i) (.int j) (.int (i.fmod j)):=⟨_,xm,lH h λ_ _=>.int⟩
theorem l3 (h:xS i j):cg X (binaryOp .Pow) (.int i) (.int j) (.int (i ^ j.toNat)):=⟨_,zz,lH h λ_ _=>.int⟩
theorem yD (h:xS i j):cg X (binaryOp .LShift) (.int i) (.int j) (.int (i * 2 ^ j.toNat)):=⟨_,zg,lH h λ_ _=>.int⟩
theorem A9 (h:0<=j):cg X (binaryOp .RShift) (.int i) (.int j) (.int (i / 2 ^ j.toNat)):=⟨_,zf,lH h λ_ _=>.int⟩
theorem zG:cg X (compareOp .Lt) (.int i) (.int j) (.bl (decide (i < j))):=⟨_,B8,jh λ_ _=>.bl⟩
theorem xq:cg X (compareOp .LtE) (.int i) (.int j) (.bl (decide (i<=j))):=⟨_,Bv,jh λ_ _=>.bl⟩
theorem Cu:cg X (compareOp .Gt) (.int i) (.int j) (.bl (decide (j < i))):=⟨_,A1,jh λ_ _=>.bl⟩
theorem Bs:cg X (compareOp .GtE) (.int i) (.int j) (.bl (decide (j<=i))):=⟨_,BV,jh λ_ _=>.bl⟩
theorem fK:cg X (compareOp .Eq) (.int i) (.int j) (.bl (decide (i=j))):=⟨_,yE,λ_ v w H Q _ d1 d2 k=>by
 cases d1
 cases d2
 exact ⟨rfl,by rw [show decide (V.int i=V.int j)=decide (i=j) by simp]; exact k _ H (ai.refl _) .bl⟩⟩
theorem jM:cg X (compareOp .NotEq) (.int i) (.int j) (.bl (!decide (i=j))):=⟨_,yv,λ_ v w H Q _ d1 d2 k=>by
 cases d1
 cases d2
 exact ⟨rfl,by rw [show decide (V.int i=V.int j)=decide (i=j) by simp]; exact k _ H (ai.refl _) .bl⟩⟩
theorem uP (h:PE X a (dE X.K C τ (.d (.int i)))):PE X (.UnaryOp .USub a pos) (dE X.K C τ (.d (.int (-i)))):=peW (CC Ar h) λσ H Q q=>by
 obtain ⟨A,H₀,B,S,k⟩:=fU q
 refine aQ S λv H1 e1 d1=>?_
 cases d1
 exact ⟨i,rfl,k _ H1 e1 .int⟩
theorem BJ {e:Expr}:PE X e λ_ _ _=>False:=λ_ _ _ _ _ _ h=>h.elim
theorem pw_no {e:Expr}:PW X e λ_ _ _=>False:=λ_ _ _ _ _ _ _ h=>h.elim
variable {p q:Bool} {c:Expr} {rest:List Expr}
theorem iu {op} {s:Sl} (h:PE X a (dE X.K C τ s)):PE X (.BoolOp op [a] pos) (dE X.K C τ s):=zv h
theorem fP (ha:PE X a (dE X.K C τ (.d (.bl p)))) (hb:p=true->PE X (.BoolOp .And (b :: rest) pos) (dE X.K C τ (.d (.bl q)))):PE X (.BoolOp .And (a :: b :: rest) pos) (dE X.K C τ (.d (.bl (p && q)))):=by
 cases p with
 | false=>
   refine peW (wg ha BJ) λσ H Q z=>?_
   obtain ⟨A,H₀,B,S,k⟩:=fU z
   exact aQ S λv H' e d=>by cases d; exact ⟨_,rfl,k _ H' e .bl⟩
 | true=>
   refine peW (wg ha (hb rfl)) λσ H Q z=>?_
   obtain ⟨A,H₀,B,S,k⟩:=fU z
   exact aQ S λv H' e d=>by cases d; exact ⟨_,rfl,aQ (S.mono e) λv H2 e2 d2=>k v H2 (e.trans e2) d2⟩
theorem yF (ha:PE X a (dE X.K C τ (.d (.bl p)))):PE X (.UnaryOp .Not a pos) (dE X.K C τ (.d (.bl (!p)))):=peW (Au ha) λσ H Q z=>by
 obtain ⟨A,H₀,B,S,k⟩:=fU z
 exact aQ S λv H' e d=>by cases d; exact ⟨_,rfl,k _ H' e .bl⟩
theorem df (ha:PT X a (dT X.K τ p)):PW X (.BoolOp .Or [a] pos) (dT X.K τ p):=pw_or1 ha
theorem d8 (ha:PT X a (dT X.K τ p)) (hb:p=false->PW X (.BoolOp .Or (b :: rest) pos) (dT X.K τ q)):PW X (.BoolOp .Or (a :: b :: rest) pos) (dT X.K τ (p || q)):=by
 cases p with
 | true=>exact pwW (pw_or ha pw_no) λσ H Q ⟨A,H₀,B,S,k⟩=>⟨A,H₀,B,S,λH' e=>tG (k H' e)⟩
 | false=>exact pwW (pw_or ha (hb rfl)) λσ H Q ⟨A,H₀,B,S,k⟩=>⟨A,H₀,B,S,λH' e=>ur (⟨A,H₀,B,S.mono e,λH2 e2=>k H2 (e.trans e2)⟩)⟩
theorem bO (ha:PT X a (dT X.K τ p)):PT X (.UnaryOp .Not a pos) (dT X.K τ (!p)):=ptW (zw ha) λσ H Q ⟨A,H₀,B,S,k⟩=>⟨A,H₀,B,S,λH' e=>k H' e⟩
theorem si {op op':CmpOp} (ha:PE X a (dE X.K C τ (.d x))) (hb:PE X b (dE X.K C τ (.d y))) (hc:PE X c (dE X.K C τ (.d z))) (h1:cg X (compareOp op) x y (.bl p)) (h2:cg X (compareOp op') y z (.bl q))
   (hm:lastMarks [op,op'] [b,c]=false:=by with_unfolding_all rfl):PE X (.Compare a [op,op'] [b,c] pos) (dE X.K C τ (.d (.bl (p && q))))/\(C=false->PT X (.Compare a [op,op'] [b,c] pos) (dT X.K τ (p && q))):=by
 obtain ⟨r,o1,k1⟩:=h1
 obtain ⟨r',o2,k2⟩:=h2
 have key:∀ σ H Q,dE X.K C τ (.d (.bl (p && q))) σ H Q->pM r r' (dE X.K C τ (.d x)) (dE X.K C τ (.d y)) (dE X.K C τ (.d z)) σ H Q:=λσ H Q h=>by
   obtain ⟨A,H₀,B,S,k⟩:=fU h
   refine aQ S λv H1 e1 d1=>aQ (S.mono e1) λw H2 e2 d2=>k1 (vw C A B) v w H2 _ ((S.mono e1).mono e2).vd (d1.mono (az e2 λ_ z=>z)) d2 λu H3 e3 d3=>?_
   cases d3
   refine ⟨p,rfl,?_⟩
   cases p with
   | false=>exact ur (k _ H3 (e1.trans (e2.trans e3)) .bl)
   | true=>exact tG (aQ (((S.mono e1).mono e2).mono e3) λw' H4 e4 d4=>k2 (vw C A B) w w' H4 Q ((((S.mono e1).mono e2).mono e3).mono e4).vd (d2.mono (az (e3.trans e4) λ_ z=>z)) d4 λu H5 e5 d5=>k u H5 (e1.trans (e2.trans (e3.trans (e4.trans e5)))) d5)
 exact ⟨peW (v7 o1 o2 ha hb hc hm) key,λhC=>by subst hC; exact ptW (vL o1 o2 ha hb hc hm) (tZ key)⟩
theorem ag:PA X [] (dA X.K C τ []):=paW dC λσ H Q ⟨A,H₀,B,S,k⟩=>k [] H (ai.refl _) .nil
theorem ae {ds:List D} (ha:PE X e (dE X.K C τ (.d x))) (hr:PA X es (dA X.K C τ ds)) (hs:starEach (e :: es) X.env=(false,eval e X.env) :: starEach es X.env:=by rfl):PA X (e :: es) (dA X.K C τ (x :: ds)):=paW (bF ha hr hs) λσ H Q ⟨A,H₀,B,S,k⟩=>
 aQ S λv H1 e1 d1=>eg (S.mono e1) λvs H2 e2 d2=>k _ H2 (e1.trans e2) (.cons (d1.mono (az e2 λ_ z=>z)) d2)
theorem fj {ds:List D} {m} (h:PA X es (dA X.K C τ ds)) (hl:Nat.ble ds.length 1000=true:=by rfl):PE X (.Tuple es m pos) (dE X.K C τ (.d (.tup ds))):=peW (v5 h) λσ H Q q=>by
 obtain ⟨A,H₀,B,S,k⟩:=fU q
 refine eg S λvs H1 e1 d1=>⟨by rw [d1.length]; exact Nat.le_of_lt (lP (Nat.le_of_ble_eq_true hl)),λp hp=>k _ _ (e1.trans (ak hp _)) ?_⟩
 exact .tup (SqT.of (qC (S.mono e1).vd hp)) (d1.mono (az (ak hp _) λ_ z=>z))
theorem cw {ds:List D} (h:PA X es (dA X.K C τ ds)) (hl:Nat.ble ds.length 1000=true:=by rfl):PE X (.List es pos) (dE X.K C τ (.o ds)):=peW (Av h) λσ H Q ⟨A,H₀,B,S,k⟩=>
 eg S λvs H1 e1 d1=>⟨by rw [d1.length]; exact Nat.le_of_lt (lP (Nat.le_of_ble_eq_true hl)),λp hp=>k _ _ [p] (e1.trans (ak hp _)) (λb hb=>by
   obtain rfl:=List.mem_singleton.mp hb
   exact ⟨e1.free hp,_,aJ⟩) ⟨p,vs,rfl,rfl,aJ,d1.mono λb o z=>by
     obtain ⟨z1,z2⟩:=ao.mp z
     refine ao.mpr ⟨λy=>?_,ak hp _ _ _ z2⟩
     rcases y with y | y
     · exact z1 y
     · rw [List.mem_singleton.mp y] at z2; rw [hp] at z2; cases z2⟩⟩
end
noncomputable def spD (K:PySem.W.Frag) (Φ:List D->Sl->Prop):Sp:=λvs H Q _=>∃ A ds s,(∀ b,A b->∃ o,H b=some o)/\aq K (hd H A) vs ds/\Φ ds s /\
 ∀ v H' bs,ai H H'->Fr H H' bs->cj K (hd H' λb=>A b\/b ∈ bs) H' (some v) bs s->Q v H'
noncomputable def Cal (P:Program) (w:World) (K:PySem.W.Frag) (mg:Str->Option Value) (base:Heap) (k:Nat) (n:Str) (Φ:List D->Sl->Prop):Prop:=
 ∃ f fd ps,aN P w K mg base CX0 k f fd ps (spD K Φ)/\mg n=some (.ref f)/\PySem.W.keepIn K (.ref f)=true/\Binds K fd ps []
theorem Cal.mono {P:Program} {w:World} {K:PySem.W.Frag} {mg:Str->Option Value} {base:Heap} {j k:Nat} {n:Str} {Φ:List D->Sl->Prop} (c:Cal P w K mg base j n Φ) (h:j<=k):Cal P w K mg base k n Φ:=
 let ⟨f,fd,ps,F,r⟩:=c; ⟨f,fd,ps,F.mono h,r⟩
noncomputable def aj:List Str:=["len","abs","max","min","int","bool","list","tuple","str","isinstance","range","enumerate","all","zip","sorted","sum","any","reversed"]
structure Bk (X:Cx) (k:Nat):Prop where
 room:eL k X.A
 calm:X.calm=true
 blt:∀ x ∈ aj,X.mg x=none
 po:PassesOwn (model X.prog X.w) X.A X.env X.xe
section
variable {X:Cx} {C:Bool} {τ:List Sl} {x y z:D} {a b e:Expr} {es:List Expr} {pos p:Pos} {k:Nat} {s:Sl} {ds:List D} {i j:Int}
theorem x_call {n:Str} {Φ:List D->Sl->Prop} (B:Bk X k) (c:Cal X.prog X.w X.K X.mg X.base k n Φ) (ha:PA X (e :: es) (dA X.K C τ ds)) (h:Φ ds s) (hg:Gl X n:=by rfl) (hdb:(n == ("__debug__" : Str))=false:=by decide)
   (he:starEach (e :: es) X.env=(false,eval e X.env) :: starEach es X.env:=by rfl) (hpl:(backTo pos (starEach es X.env)).any (·.1)=false:=by rfl):PE X (.Call (.Name n p) (e :: es) [] pos) (dE X.K C τ s):=by
 obtain ⟨f,fd,ps,F,hm,hk,hb⟩:=c
 refine peW (sf F B.room hg hm hk hb .nil Br ha hdb he hpl) λσ H Q ⟨A,H₀,B,S,q⟩=>eg S λvs H1 e1 d1=>?_
 rw [List.append_nil]
 exact ⟨vw C A B,ds,s,(S.mono e1).vd,d1,h,λv H' bs e2 hf h2=>q v H' bs (e1.trans e2) (λb hb=>⟨e1.free (hf b hb).1,(hf b hb).2⟩) h2⟩
noncomputable def kJ (X:Cx) (f:Value) (ds:List D) (s:Sl):Prop:=∃ r:List V->Hp->VK->Prop,fF X f r /\
 ∀ (M:Addr->Prop) (vs:List V) (H:Hp) (Q:VK),(∀ b,M b->∃ o,H b=some o)->aq X.K (hd H M) vs ds->(∀ u H' bs,ai H H'->Fr H H' bs->cj X.K (hd H' λb=>M b\/b ∈ bs) H' (some u) bs s->Q u H')->r vs H Q
theorem pX {r:List V->Hp->VK->Prop} (hr:∀ (M:Addr->Prop) (vs:List V) (H:Hp) (Q:VK),(∀ b,M b->∃ o,H b=some o)->aq X.K (hd H M) vs ds->(∀ u H' bs,ai H H'->Fr H H' bs->cj X.K (hd H' λb=>M b\/b ∈ bs) H' (some u) bs s->Q u H')->r vs H Q) :
   ∀ σ H Q,dE X.K C τ s σ H Q->tCB r (dA X.K C τ ds) σ H Q:=λσ H Q ⟨A,H₀,B,S,q⟩=>
 eg S λvs H1 e1 d1=>hr (vw C A B) vs H1 Q (S.mono e1).vd d1 λv H' bs e2 hf h2=>q v H' bs (e1.trans e2) (λb hb=>⟨e1.free (hf b hb).1,(hf b hb).2⟩) h2
theorem bh {n:Str} {id:String} (B:Bk X k) (ha:PA X (e :: es) (dA X.K C τ ds)) (c:kJ X (.builtin id) ds s) (hn:n ∈ aj:=by decide) (hg:Gl X n:=by rfl) (hv:bootBuiltins n=some (.builtin id):=by decide +kernel) (h1:n ≠ "__name__":=by decide) (hdb:(n == ("__debug__" : Str))=false:=by decide)
   (he:starEach (e :: es) X.env=(false,eval e X.env) :: starEach es X.env:=by rfl) (hpl:(backTo pos (starEach es X.env)).any (·.1)=false:=by rfl):PE X (.Call (.Name n p) (e :: es) [] pos) (dE X.K C τ s):=by
 obtain ⟨r,h1,h2⟩:=c
 exact peW (fI h1 hg (B.blt _ hn) hv ha (by assumption) hdb he hpl) (pX h2)
theorem AN {n:Str} {T:String} (B:Bk X k) (ha:PA X (e :: es) (dA X.K C τ ds)) (c:kJ X (.type T) ds s) (hn:n ∈ aj:=by decide) (hg:Gl X n:=by rfl) (hv:bootBuiltins n=some (.type T):=by decide +kernel) (h1:n ≠ "__name__":=by decide) (hdb:(n == ("__debug__" : Str))=false:=by decide)
   (he:starEach (e :: es) X.env=(false,eval e X.env) :: starEach es X.env:=by rfl) (hpl:(backTo pos (starEach es X.env)).any (·.1)=false:=by rfl):PE X (.Call (.Name n p) (e :: es) [] pos) (dE X.K C τ s):=by
 obtain ⟨r,h1,h2⟩:=c
 exact peW (sD h1 hg (B.blt _ hn) hv ha (by assumption) hdb he hpl) (pX h2)
theorem iV {K:PySem.W.Frag} {H:Hp} {M:Addr->Prop} {v:V} (h:Den K (hd H M) v x):cj K (hd H λb=>M b\/b ∈ ([]:List Addr)) H (some v) [] (.d x):=⟨rfl,v,rfl,h.mono (az (ai.refl _) λ_ z=>z.elim id λz=>nomatch z)⟩
theorem fD {H H':Hp}:Fr H H' []:=λ_ z=>nomatch z
theorem jr {xs:List D}:kJ X (.builtin "len") [.lst xs] (.d (.int xs.length)):=⟨_,g9,λM vs H Q _ d q=>by
 cases d with
 | cons d r=>
   cases r
   cases d with
   | lst h r=>
     refine ⟨_,_,rfl,.inl (aM aW h),?_⟩
     rw [r.length]
     exact q _ H [] (ai.refl _) fD (iV .int)⟩
theorem qK {xs:List D}:kJ X (.builtin "len") [.tup xs] (.d (.int xs.length)):=⟨_,g9,λM vs H Q _ d q=>by
 cases d with
 | cons d r=>
   cases r
   cases d with
   | tup h r=>
     refine ⟨_,_,rfl,.inr (ba aW h),?_⟩
     rw [r.length]
     exact q _ H [] (ai.refl _) fD (iV .int)⟩
noncomputable def xk (i:Int):Int:=if i < 0 then -i else i
theorem nY:kJ X (.builtin "abs") [.int i] (.d (.int (xk i))):=⟨_,uc,λM vs H Q _ d q=>by
 cases d with
 | cons d r=>
   cases r
   cases d
   exact ⟨_,rfl,q _ H [] (ai.refl _) fD (iV .int)⟩⟩
theorem oy (hc:X.calm=true):kJ X (.builtin "min") [.int i,.int j] (.d (.int (if j < i then j else i))):=⟨_,sP hc,λM vs H Q _ d q=>by
 cases d with
 | cons d r=>
   cases r with
   | cons d' r=>
     cases r
     cases d
     cases d'
     exact ⟨_,_,rfl,q _ H [] (ai.refl _) fD (iV .int)⟩⟩
theorem mT {K:PySem.W.Frag} {H:Hp} {M:Addr->Prop} {p:Addr} {vs:List V} {xs:List D} (hp:H p=none) (d:aq K (hd H M) vs xs) :
   ai H (upd H p (.lst vs))/\Fr H (upd H p (.lst vs)) [p]/\cj K (hd (upd H p (.lst vs)) λb=>M b\/b ∈ [p]) (upd H p (.lst vs)) (some (.ref p)) [p] (.o xs):=
 ⟨ak hp _,λb hb=>by
   obtain rfl:=List.mem_singleton.mp hb
   exact ⟨hp,_,aJ⟩,p,vs,rfl,rfl,aJ,d.mono λb o z=>by
     obtain ⟨z1,z2⟩:=ao.mp z
     refine ao.mpr ⟨λy=>?_,ak hp _ _ _ z2⟩
     rcases y with y | y
     · exact z1 y
     · rw [List.mem_singleton.mp y] at z2; rw [hp] at z2; cases z2⟩
theorem qe {xs:List D}:kJ X (.type "list") [.lst xs] (.o xs):=⟨_,mr,λM vs H Q _ d q=>by
 cases d with
 | cons d r=>
   cases r
   cases d with
   | lst h r=>
     refine ⟨_,_,rfl,.inl (aM aW h),λp hp=>?_⟩
     obtain ⟨z1,z2,z3⟩:=mT (K:=X.K) (M:=M) hp r
     exact q _ _ [p] z1 z2 z3⟩
theorem vW {K:PySem.W.Frag} {H:Hp} {vs:List V} {ds:List D} {i:Int} {d:D} (r:aq K H vs ds) (h:atI ds i=some d):∃ v,atI vs i=some v/\Den K H v d:=by
 unfold atI at h ⊢
 rw [r.length]
 cases e:ixN ds.length i with
 | none=>rw [e] at h; cases h
 | some j=>rw [e] at h; exact r.get h
noncomputable def wO (X:Cx) (x y z:D):Prop:=∃ r:R2,IxR X r /\
 ∀ (M:Addr->Prop) (v w:V) (H:Hp) (Q:VK),(∀ b,M b->∃ o,H b=some o)->Den X.K (hd H M) v x->Den X.K (hd H M) w y->(∀ u H',ai H H'->Den X.K (hd H' M) u z->Q u H')->r v w H Q
theorem aL (ha:PE X a (dE X.K C τ (.d x))) (hb:PE X b (dE X.K C τ (.d y))) (ho:wO X x y z) (hs:gw b:=by exact λ_ _=>rfl):PE X (.Subscript a b pos) (dE X.K C τ (.d z)):=by
 obtain ⟨r,h1,h2⟩:=ho
 exact peW (rR h1 ha hb hs) (two h2)
theorem aP {xs:List D} (h:atI xs i=some z):wO X (.lst xs) (.int i) z:=⟨_,mL,λM v w H Q _ d1 d2 q=>by
 cases d2
 cases d1 with
 | lst hs r=>
   obtain ⟨v,e,d⟩:=vW r h
   exact ⟨_,_,_,_,rfl,rfl,aM aW hs,e,q _ H (ai.refl _) d⟩⟩
theorem aO {xs:List D} (h:atI xs i=some z):wO X (.tup xs) (.int i) z:=⟨_,zo,λM v w H Q _ d1 d2 q=>by
 cases d2
 cases d1 with
 | tup hs r=>
   obtain ⟨v,e,d⟩:=vW r h
   exact ⟨_,_,_,_,rfl,rfl,ba aW hs,e,q _ H (ai.refl _) d⟩⟩
noncomputable def dO (K:PySem.W.Frag) (τ:List Sl) (c:Option Int):TO:=λσ H Q=>∃ A H₀ B,Sta K A H₀ τ B σ H/\∀ H',ai H H'->Q c H'
theorem Dj {e:Option Expr} {t t':TO} (h:PO X e t) (f:∀ σ H Q,t' σ H Q->t σ H Q):PO X e t':=λpins s σ H Q I q=>h pins s σ H Q I (f σ H Q q)
theorem dN (h:PE X e (dE X.K false τ (.d (.int i)))):PO X (some e) (dO X.K τ (some i)):=Dj (xE h) λσ H Q ⟨A,H₀,B,S,k⟩=>aQ S λv H1 e1 d1=>by
 cases d1
 exact ⟨_,rfl,k H1 e1⟩
noncomputable def cutD (xs:List D) (lo hi:Option Int):List D:=(xs.drop (HT.sIx xs.length 0 lo)).take (HT.sIx xs.length xs.length hi - HT.sIx xs.length 0 lo)
theorem tT {lo hi:Option Expr} {l u:Option Int} {xs:List D} {p2:Pos} (ha:PE X a (dE X.K C τ (.d (.lst xs)))) (hl:PO X lo (dO X.K τ l)) (hu:PO X hi (dO X.K τ u)):PE X (.Subscript a (.Slice lo hi none p2) pos) (dE X.K C τ (.o (cutD xs l u))):=
 peW (uT xP ha hl hu) λσ H Q ⟨A,H₀,B,S,k⟩=>aQ S λv H1 e1 d1=>⟨A,H₀,B,S.mono e1,λH2 e2=>⟨A,H₀,B,(S.mono e1).mono e2,λH3 e3=>by
   cases d1 with
   | @lst _ ws _ h r=>
     have h:=aM (e2.trans e3) (aM aW h)
     refine ⟨_,_,rfl,h,λp hp=>?_⟩
     have r:=r.mono (az (e2.trans e3) λ_ z=>z)
     have r':aq X.K (hd H3 (vw C A B)) (tF ws l u) (cutD xs l u):=by
       unfold tF cutD
       rw [r.length]
       exact (r.drop _).take _
     obtain ⟨z1,z2,z3⟩:=mT (K:=X.K) hp r'
     exact k _ _ [p] (e1.trans (e2.trans (e3.trans z1))) (λb hb=>⟨(e1.trans (e2.trans e3)).free (z2 b hb).1,(z2 b hb).2⟩) z3⟩⟩
inductive Ty where
 | int | bool | str | list | tuple
noncomputable def tyN:Ty->String
 | .int=>"int" | .bool=>"bool" | .str=>"str" | .list=>"list" | .tuple=>"tuple"
noncomputable def By:D->String
 | .non=>"NoneType" | .bl _=>"bool" | .int _=>"int" | .str _=>"str" | .tup _=>"tuple" | .lst _=>"list" | .box _=>"dict"
noncomputable def jy:Ty->D->Bool
 | .int,.int _=>true
 | .int,.bl _=>true
 | .bool,.bl _=>true
 | .str,.str _=>true
 | .list,.lst _=>true
 | .tuple,.tup _=>true
 | _,_=>false
theorem zM (K:PySem.W.Frag) (d:D) (t:Ty):PySem.W.kitOne K (.type (By d)) (.type (tyN t))=some (jy t d):=by
 cases d <;> cases t <;> (show PySem.W.kitOne K (.type _) (.type _)=some _) <;> with_unfolding_all rfl
theorem zQ (t:Ty):fF X (.builtin "isinstance") (λxs H Q=>∃ G x d,ai G H/\xs=[x,.ty (tyN t)]/\Den X.K G x d/\Q (.bl (jy t d)) H):=by
 intro pins s σ H xs us Q I r q
 obtain ⟨G,x,d,sg,rfl,dx,q⟩:=q
 obtain ⟨u,w,rfl,rx,rt⟩:∃ u w,us=[u,w]/\RelV x u/\RelV (.ty (tyN t)) w:=by
   cases r with
   | cons r1 r=>cases r with
     | cons r2 r=>cases r; exact ⟨_,_,rfl,r1,r2⟩
 cases (show w=Value.type (tyN t) from rt)
 have kt:=zM X.K d t
 have fin:∀ tk,EP X pins σ Q (.bool (jy t d)) { s with toks:=tk }:=λtk=>⟨.bl _,H,I.tok _,rfl,q⟩
 cases dx with
 | non=>cases (show u=Value.none from rx); exact PySem.W.kia_one PySem.W.kitx_none I.kIn True.intro kt (λz=>nomatch z) fin
 | bl=>cases (show u=Value.bool _ from rx); exact PySem.W.kia_one PySem.W.kitx_bool I.kIn True.intro kt (λz=>nomatch z) fin
 | int=>obtain ⟨t',z⟩:=(show ∃ t,u=Value.int _ t from rx); cases z; exact PySem.W.kia_one PySem.W.kitx_int I.kIn True.intro kt (λz=>nomatch z) fin
 | str=>obtain ⟨t',z⟩:=(show ∃ t,u=Value.str _ t from rx); cases z; exact PySem.W.kia_one PySem.W.kitx_str I.kIn True.intro kt (λz=>nomatch z) fin
 | tup h r1=>
   cases (show u=Value.ref _ from rx)
   obtain ⟨its,_,⟨o,h1,h2,_⟩,_⟩:=I.tuple (ba sg h)
   exact PySem.W.kia_one PySem.W.kitx_tuple I.kIn ⟨o,h1,h2⟩ kt (λz=>nomatch z) fin
 | lst h r1=>
   cases (show u=Value.ref _ from rx)
   obtain ⟨its,_,⟨o,n,h1,h2,_⟩,_⟩:=I.list (aM sg h)
   exact PySem.W.kia_one PySem.W.kitx_list I.kIn ⟨o,h1,h2⟩ kt (λz=>nomatch z) fin
 | @box a x h=>
   cases (show u=Value.ref _ from rx)
   obtain ⟨o',h1,h2⟩:=x.isd h
   obtain ⟨o,h3,h4⟩:=h2 _ _ _ _ (I.hok a _ (sg _ _ h1))
   exact PySem.W.kia_one PySem.W.kitx_dict I.kIn ⟨o,h3,h4⟩ kt (λz=>nomatch z) fin
theorem eF {n:Str} {q:Pos} (t:Ty) (B:Bk X k) (ha:PE X a (dE X.K false τ (.d x))) (hn:n ∈ aj:=by decide) (ht:bootBuiltins n=some (.type (tyN t)):=by decide +kernel) (hg:Gl X "isinstance":=by rfl) (hg':Gl X n:=by rfl) (h1:n ≠ "__name__":=by decide) (hdb:(n == ("__debug__" : Str))=false:=by decide)
   (he:starEach [a,.Name n q] X.env=(false,eval a X.env) :: starEach [.Name n q] X.env:=by rfl) (hpl:(backTo pos (starEach [.Name n q] X.env)).any (·.1)=false:=by rfl):PE X (.Call (.Name "isinstance" p) [a,.Name n q] [] pos) (dE X.K C τ (.d (.bl (jy t x)))):=by
 refine peW (fI (zQ t) hg (B.blt _ (by decide)) (by decide +kernel) (bF ha (bF (rJ (v:=.ty (tyN t)) hg' (B.blt _ hn) ht rfl h1 hdb) dC) he) (by decide) (by decide) he hpl) λσ H Q q=>?_
 obtain ⟨A,H₀,B,S,k⟩:=fU q
 exact aQ S λv H1 e1 d1=>⟨_,v,x,aW,rfl,d1,k _ H1 e1 .bl⟩
end
section
variable {K:PySem.W.Frag} {A:Addr->Prop} {H₀ H H':Hp} {τ:List Sl} {B:Nat->List Addr} {σ:L2.St}
theorem Sta.put (S:Sta K A H₀ τ B σ H) {i:Nat} {a:Addr} {xs ys:List D} {vs:List V} (hi:τ[i]?=some (.o xs)) (hB:B i=[a]) (d:aq K (hd H (own A B)) vs ys):Sta K A H₀ (τ.set i (.o ys)) B σ (upd H a (.lst vs)):=by
 have ha:own A B a:=.inr ⟨i,by rw [hB]; exact List.mem_singleton.mpr rfl⟩
 have ne:∀ b,b ≠ a->upd H a (.lst vs) b=H b:=λb h=>av h
 have sm:ai (hd H (own A B)) (hd (upd H a (.lst vs)) (own A B)):=λb o z=>by
   obtain ⟨z1,z2⟩:=ao.mp z
   exact ao.mpr ⟨z1,by rw [ne b (λe=>z1 (e ▸ ha))]; exact z2⟩
 have f0:H₀ a=none:=S.fr i a (by rw [hB]; exact List.mem_singleton.mpr rfl)
 have hs:ai H₀ (upd H a (.lst vs)):=λb o z=>by rw [ne b (λe=>by rw [e,f0] at z; cases z)]; exact S.same b o z
 refine ⟨hs,by rw [List.length_set,S.len],λj t hj=>?_,S.fr,S.uq,S.ad,λj b hb=>?_⟩
 · by_cases ej:j=i
   · subst ej
     have hl:=(List.getElem?_eq_some_iff.mp hi).1
     rw [List.getElem?_set_self hl] at hj
     cases hj
     obtain ⟨a',vs',e1,e2,_,_⟩:=S.sl j _ hi
     rw [hB] at e1
     cases e1
     exact ⟨a,vs,hB,e2,aJ,d.mono sm⟩
   · rw [List.getElem?_set_ne (λz=>ej z.symm)] at hj
     have q:=S.sl j t hj
     have off:∀ b ∈ B j,b ≠ a:=λb hb e=>ej (S.uq j i a (e ▸ hb) (by rw [hB]; exact List.mem_singleton.mpr rfl))
     cases t with
     | un=>exact q
     | d x=>obtain ⟨z,u,e,d⟩:=q; exact ⟨z,u,e,d.mono sm⟩
     | o zs=>
       obtain ⟨c,ws,z1,z2,z3,z4⟩:=q
       exact ⟨c,ws,z1,z2,by rw [ne c (off c (by rw [z1]; exact List.mem_singleton.mpr rfl))]; exact z3,z4.mono sm⟩
     | n t=>
       obtain ⟨z0,u,z1,z2⟩:=q
       exact ⟨z0,u,z1,z2.frame sm λb hb=>ne b (off b hb)⟩
     | x E=>
       obtain ⟨c,o,z1,z2,z3,z4⟩:=q
       exact ⟨c,o,z1,z2,by rw [ne c (off c (by rw [z1]; exact List.mem_singleton.mpr rfl))]; exact z3,E.mono sm z4⟩
 · by_cases e:b=a
   · subst e; exact ⟨_,aJ⟩
   · rw [ne b e]; exact S.bd j b hb
theorem Sta.fz (S:Sta K A H₀ τ B σ H) {i:Nat} {s:Sl} {x:D} (hi:τ[i]?=some s) (hx:fzD s=some x):Sta K A H₀ (τ.set i (.d x)) (upB B i []) σ H:=
 S.less (λ_ z=>nomatch z) λG g hv=>by
   obtain ⟨u,e,d⟩:=(S.sl i s hi).den (G':=G) g (λb hb o ho=>hv b o hb (λz=>nomatch z) ho) hx
   exact ⟨rfl,u,e,d⟩
end
section
variable {X:Cx} {C:Bool} {τ:List Sl} {x y z:D} {a b e c:Expr} {es:List Expr} {pos p:Pos} {k:Nat} {s:Sl} {ds:List D} {N:Po} {st:Stmt} {rest body els:List Stmt}
theorem aV (h:N.nx τ):PSs X [] (dS X.K τ N):=kS jD λD σ H ⟨A,H₀,B,S,M⟩=>M.nx τ B σ H h S
theorem a7 {M:List Sl->Prop} (h1:PS X st (dS X.K τ { N with nx:=M })) (h2:∀ τ',M τ'->PSs X rest (dS X.K τ' N)):PSs X (st :: rest) (dS X.K τ N):=by
 have h:PSs X rest λD σ H=>∃ τ',M τ'/\dS X.K τ' N D σ H:=λpins s σ H D I ⟨τ',m,q⟩=>h2 τ' m pins s σ H D I q
 exact kS (ic h1 h) λD σ H ⟨A,H₀,B,S,Me⟩=>⟨A,H₀,B,S,λτ' B' σ' H' m S'=>⟨τ',m,A,H₀,B',S',Me⟩,Me.bk,Me.ct,Me.rt,Me.xc⟩
theorem ny (i:Nat) {s:Sl} {x:D} (h:PSs X rest (dS X.K (τ.set i (.d x)) N)) (hi:τ[i]?=some s:=by rfl) (hx:fzD s=some x:=by rfl):PSs X rest (dS X.K τ N):=kS h λD σ H ⟨A,H₀,B,S,Me⟩=>⟨A,H₀,_,S.fz hi hx,Me⟩
theorem aA (i:Nat) {n:Str} {p:Pos} (hN:X.N.Nodup) (he:PE X e (dE X.K true τ s)) (hr:PSs X rest (dS X.K (τ.set i s) N)) (hi:X.N[i]?=some n:=by rfl) (hx:Loc X.env.scope n:=by first | exact .inl rfl | exact .inr rfl) (hs:swapsWith e (some (.Name n p)) pos.line X.env=pure false:=by rfl)
   (hf:X.fn n=true\/X.env.scope.names.lookup n=some .local:=by first | exact .inl rfl | exact .inr rfl | assumption):PSs X (.Assign [.Name n p] e pos :: rest) (dS X.K τ N):=
 a7 (M:=(·=τ.set i s)) (psW (uH hN hi hx he hs hf) λD σ H ⟨A,H₀,B,S,Me⟩=>⟨A,H₀,B,S,λv H' bs e hf h=>Me.nx _ _ _ _ rfl (S.set e hf h)⟩) λ_ e=>e ▸ hr
theorem mW (he:PE X e (dE X.K true τ s)) (hr:PSs X rest (dS X.K τ N)) (hs:swapsWith e none pos.line X.env=pure false:=by rfl):PSs X (.Expr e pos :: rest) (dS X.K τ N):=
 a7 (M:=(·=τ)) (psW (gu he hs) λD σ H ⟨A,H₀,B,S,Me⟩=>⟨A,H₀,B,S,λv H' bs e hf h=>Me.nx _ _ _ _ rfl (S.mono e)⟩) λ_ e=>e ▸ hr
theorem aK (he:PE X e (dE X.K false τ s)) (h:N.rt s):PSs X (.Return (some e) pos :: rest) (dS X.K τ N):=
 a7 (M:=λ_=>False) (psW (kA he) λD σ H ⟨A,H₀,B,S,Me⟩=>⟨A,H₀,B,S,λv H' bs e hf q=>Me.rt v H' bs s h (S.same.trans e) (λb hb=>⟨S.same.free (hf b hb).1,(hf b hb).2⟩) q⟩) λ_ e=>e.elim
theorem jL (i:Nat) {n:Str} (h:N.rt s) (hi:τ[i]?=some s:=by rfl) (h0:s ≠ .un:=by exact nofun) (hN:X.N[i]?=some n:=by rfl) (hv:Vis X.env.scope n:=by first | exact Or.inl rfl | exact Or.inr (Or.inl rfl) | exact Or.inr (Or.inr rfl))
   (hd:(n == ("__debug__" : Str))=false:=by decide) (hcd:(n == ("__classdict__" : Str))=false:=by decide):PSs X (.Return (some (.Name n p)) pos :: rest) (dS X.K τ N):=
 a7 (M:=λ_=>False) (psW (kA (bT hN hv hd hcd)) λD σ H ⟨A,H₀,B,S,Me⟩=>by
   have q:=S.sl i s hi
   obtain ⟨u,e⟩:∃ u,(σ[i]?).join=some u:=by
     cases s with
     | un=>exact absurd rfl h0
     | d x=>obtain ⟨_,u,e,_⟩:=q; exact ⟨u,e⟩
     | o xs=>obtain ⟨_,_,_,e,_⟩:=q; exact ⟨_,e⟩
     | n t=>obtain ⟨_,u,e,_⟩:=q; exact ⟨u,e⟩
     | x E=>obtain ⟨_,_,_,e,_⟩:=q; exact ⟨_,e⟩
   rw [e] at q
   exact ⟨u,slot_of e,Me.rt u H (B i) s h S.same (λb hb=>⟨S.fr i b hb,S.bd i b hb⟩) (q.mono (az (ai.refl _) λb z=>z.elim .inl λz=>.inr ⟨i,z⟩) (ai.refl _))⟩) λ_ e=>e.elim
theorem yy {H H':Hp} {σ:L2.St} {D:Ends} {A:Addr->Prop} {H₀:Hp} {B:Nat->List Addr} (S:Sta X.K A H₀ τ B σ H) (Me:Meets X.K A H₀ N D) (e:ai H H'):dS X.K τ N D σ H':=⟨A,H₀,B,S.mono e,Me⟩
theorem CW {t:Bool} (hc:PT X c (dT X.K τ t)) (ha:t=true->PSs X body (dS X.K τ N)) (hb:t=false->PSs X els (dS X.K τ N)):PS X (.If c body els pos) (dS X.K τ N):=by
 cases t with
 | true=>exact psW (rP hc (ha rfl) iX) λD σ H ⟨A,H₀,B,S,Me⟩=>⟨A,H₀,B,S,λH' e=>tG (yy S Me e)⟩
 | false=>exact psW (rP hc iX (hb rfl)) λD σ H ⟨A,H₀,B,S,Me⟩=>⟨A,H₀,B,S,λH' e=>ur (yy S Me e)⟩
theorem mP {t:Bool} {M:List Sl->Prop} (hc:PT X c (dT X.K τ t)) (ha:t=true->PSs X body (dS X.K τ { N with nx:=M })) (hb:t=false->PSs X els (dS X.K τ { N with nx:=M })) (hr:∀ τ',M τ'->PSs X rest (dS X.K τ' N)):PSs X (.If c body els pos :: rest) (dS X.K τ N):=
 a7 (CW hc ha hb) hr
theorem cv {t:Bool} (hc:PT X c (dT X.K τ t)) (ha:t=true->PSs X body (dS X.K τ { N with nx:=λ_=>False })) (hr:t=false->PSs X rest (dS X.K τ N)):PSs X (.If c body [] pos :: rest) (dS X.K τ N):=by
 cases t with
 | true=>exact mP (M:=λ_=>False) hc ha (λz=>nomatch z) λ_ z=>z.elim
 | false=>exact mP (M:=(·=τ)) hc (λz=>nomatch z) (λ_=>aV rfl) λ_ e=>e ▸ hr rfl
theorem cu {t:Bool} (hc:PT X c (dT X.K τ t)) (ht:t=false) (hr:PSs X rest (dS X.K τ N)):PSs X (.If c body [] pos :: rest) (dS X.K τ N):=cv hc (λz=>by rw [ht] at z; cases z) λ_=>hr
theorem rh (i:Nat) {n:Str} {xs:List D} {ap cp:Pos} (he:PE X e (dE X.K true τ (.d x))) (hl:xs.length < 1000000) (hr:PSs X rest (dS X.K (τ.set i (.o (xs++[x]))) N)) (hi:τ[i]?=some (.o xs):=by rfl) (hN:X.N[i]?=some n:=by rfl)
   (hv:Vis X.env.scope n:=by first | exact Or.inl rfl | exact Or.inr (Or.inl rfl) | exact Or.inr (Or.inr rfl)) (hd:(n == ("__debug__" : Str))=false:=by decide) (hcd:(n == ("__classdict__" : Str))=false:=by decide)
   (hfew:((backTo cp (starEach [e] X.env)).all (λx=>!x.1) && (backToKw cp (keywordEach [] X.env)).all (λx=>x.1.isSome) && decide (([e]:List Expr).length + ([]:List Keyword).length + (if ([]:List Keyword).isEmpty then 0 else 1) < 30))=true:=by rfl)
   (hline:(ap.endLine == cp.line)=true:=by rfl) (hst:starEach [e] X.env=(false,eval e X.env) :: starEach [] X.env:=by rfl) (hpl:(backTo cp (starEach [] X.env)).any (·.1)=false:=by rfl)
   (hs:swapsWith (.Call (.Attribute (.Name n p) "append" ap) [e] [] cp) none pos.line X.env=pure false:=by rfl) (hbase:attributeBase (.Name n p) "append" X.env (eval (.Name n p) X.env)=eval (.Name n p) X.env:=by rfl) :
   PSs X (.Expr (.Call (.Attribute (.Name n p) "append" ap) [e] [] cp) pos :: rest) (dS X.K τ N):=
 a7 (M:=(·=τ.set i (.o (xs++[x])))) (psW (gu (rQ PySem.F.plainAttrs_list PySem.F.slot_list_append PySem.F.type_list_append gy (bT hN hv hd hcd) (bF he dC hst) hbase hfew hline hst hpl) hs) λD σ H ⟨A,H₀,B,S,Me⟩=>by
   obtain ⟨l,vs,hb,e1,e2,d⟩:=S.sl i _ hi
   refine ⟨_,slot_of e1,.inl ⟨rfl,_,SqL.of e2⟩,aQ S λv H1 e3 d1=>⟨l,vs,v,rfl,rfl,e3 _ _ e2,by rw [d.length]; exact Nat.lt_trans hl (by decide),?_⟩⟩
   exact Me.nx _ _ _ _ rfl ((S.mono e3).put hi hb ((d.mono (az e3 λ_ z=>z)).append (.cons d1 .nil)))) λ_ e=>e ▸ hr
theorem jC {K:PySem.W.Frag} {H:Hp}:∀ {vs:List V} {ds:List D} {v:V} {d:D} (j:Nat),aq K H vs ds->Den K H v d->aq K H (vs.set j v) (ds.set j d)
 | _,_,_,_,_,.nil,_=>.nil
 | _,_,_,_,0,.cons _ r,h=>.cons h r
 | _,_,_,_,j + 1,.cons h' r,h=>.cons h' (jC j r h)
theorem BG (i:Nat) {n:Str} {xs:List D} {m:Int} {j:Nat} {ix:Expr} {sp:Pos} (hx:PE X ix (dE X.K false τ (.d (.int m)))) (he:PE X e (dE X.K true τ (.d x))) (hj:ixN xs.length m=some j) (hr:PSs X rest (dS X.K (τ.set i (.o (xs.set j x))) N)) (hi:τ[i]?=some (.o xs):=by rfl) (hN:X.N[i]?=some n:=by rfl)
   (hv:Vis X.env.scope n:=by first | exact Or.inl rfl | exact Or.inr (Or.inl rfl) | exact Or.inr (Or.inr rfl)) (hd:(n == ("__debug__" : Str))=false:=by decide) (hcd:(n == ("__classdict__" : Str))=false:=by decide)
   (hs:swapsWithSole [.Subscript (.Name n p) ix sp] e pos.line X.env=pure false:=by rfl) (hw:swappedStores [.Subscript (.Name n p) ix sp] e X.env=pure none:=by rfl) (h1:(assignEach [.Subscript (.Name n p) ix sp] X.env).map (·.2)=[assign (.Subscript (.Name n p) ix sp) X.env]:=by rfl)
   (ha:∀ v,assign (.Subscript (.Name n p) ix sp) X.env v=(do
     let ov <- holding [v] (eval (.Name n p) X.env)
     let iv <- holding [v,ov] (eval ix X.env)
     standAt sp
     holding [v,ov,iv] (setItem ov iv v)
     release [v,ov,iv] []):=by intro _; rfl) :
   PSs X (.Assign [.Subscript (.Name n p) ix sp] e pos :: rest) (dS X.K τ N):=
 a7 (M:=(·=τ.set i (.o (xs.set j x)))) (psW (mf he (p9 (bT hN hv hd hcd) hx set_list ha) hs hw h1) λD σ H ⟨A,H₀,B,S,Me⟩=>aQ S λv H1 e1 d1=>by
   obtain ⟨l,vs,hb,f1,f2,d⟩:=(S.mono e1).sl i _ hi
   refine ⟨_,slot_of f1,aQ (S.mono e1) λw H2 e2 d2=>?_⟩
   cases d2
   refine ⟨l,vs,m,j,rfl,rfl,e2 _ _ f2,by rw [d.length]; exact hj,?_⟩
   exact Me.nx _ _ _ _ rfl (((S.mono e1).mono e2).put hi hb (jC j (d.mono (az e2 λ_ z=>z)) (d1.mono (az e2 λ_ z=>z))))) λ_ e=>e ▸ hr
end
end Hy
namespace Hy
open PySem PySem.Spec PyProof.Rows L2
open Ev (D Den aq ak ba aM Ite Itz An zO nc pz aH fu dg PTs cE eh)
noncomputable def Yl (K:PySem.W.Frag) (J:L2.It) (xs:List D) (G:Hp):Prop:=∀ H,ai G H->(∀ i,xs.length<=i->J.stop i H)/\∀ (i:Nat) (h:i < xs.length),J.go i H /\
 ∀ x H',J.yld i H x H'->ai H H'/\∀ M:Addr->Prop,(∀ b,M b->∃ o,H b=some o)->ai G (hd H M)->Den K (hd H' M) x xs[i]
noncomputable def dI (K:PySem.W.Frag) (τ:List Sl) (xs:List D):TI:=λσ H R=>∃ A H₀ B,Sta K A H₀ τ B σ H/\∀ J H',ai H H'->Yl K J xs (hd H' (own A B))->R J H'
noncomputable def dG (K:PySem.W.Frag) (τ:List Sl) (x:D) (τ':List Sl):TG:=λv σ H Q=>∃ A H₀ B,Sta K A H₀ τ B σ H/\Den K (hd H (own A B)) v x/\∀ σ' B',Sta K A H₀ τ' B' σ' H->Q σ' H
theorem piW {X:Cx} {tg e:Expr} {t t':TI} (h:PI X tg e t) (f:∀ σ H Q,t' σ H Q->t σ H Q):PI X tg e t':=λpins s σ H Q I q=>h pins s σ H Q I (f σ H Q q)
theorem pgW {X:Cx} {e:Expr} {t t':TG} (h:PG X e t) (f:∀ v σ H Q,t' v σ H Q->t v σ H Q):PG X e t':=λpins s σ H v u Q I r q=>h pins s σ H v u Q I r (f v σ H Q q)
section
variable {K:PySem.W.Frag} {G:Hp} {a:Addr} {vs:List V} {xs:List D}
theorem yd (h:SqL K G a vs) (r:aq K G vs xs):Yl K (Itl K a) xs G:=by
 intro H sg
 have hl:=r.length
 refine ⟨λi hi=>⟨vs,aM sg h,by omega⟩,λi hi=>?_⟩
 obtain ⟨v,hv,dv⟩:=r.get (List.getElem?_eq_getElem hi)
 refine ⟨⟨vs,v,aM sg h,hv⟩,λx H' ⟨e1,e2⟩=>?_⟩
 subst e1
 have ex:x=v:=by have:=e2 vs (aM sg h); rw [hv] at this; exact (Option.some.inj this).symm
 subst ex
 exact ⟨ai.refl _,λM _ sv=>dv.mono sv⟩
noncomputable def ig (lo:Int) (n:Nat):List D:=(List.range n).map λk=>D.int (lo + (k:Nat))
theorem aF (lo:Int) (n:Nat):(ig lo n).length=n:=by simp [ig]
theorem mI (lo:Int) (n i:Nat) (h:i < (ig lo n).length):(ig lo n)[i]=.int (lo + (i:Nat)):=by simp [ig]
theorem ql (lo:Int) (n:Nat):Yl K (Itr lo n) (ig lo n) G:=by
 intro H sg
 refine ⟨λi hi=>by rw [aF] at hi; exact hi,λi hi=>?_⟩
 have hi':i < n:=by rw [aF] at hi; exact hi
 refine ⟨hi',λx H' ⟨e1,e2⟩=>?_⟩
 subst e1 e2
 refine ⟨ai.refl _,λM _ sv=>?_⟩
 rw [mI]
 exact .int
noncomputable def nA (xs:List D):List D:=(List.range xs.length).map λi=>D.tup [.int (i:Nat),xs.getD i .non]
theorem iq (xs:List D):(nA xs).length=xs.length:=by simp [nA]
theorem rV (xs:List D) (i:Nat) (h:i < (nA xs).length):(nA xs)[i]=.tup [.int (i:Nat),xs.getD i .non]:=by simp [nA]
theorem zT (h:SqL K G a vs) (r:aq K G vs xs):Yl K (Ite K a) (nA xs) G:=by
 intro H sg
 have hl:=r.length
 have el:=iq xs
 refine ⟨λi hi=>⟨vs,aM sg h,by omega⟩,λi hi=>?_⟩
 have hi':i < xs.length:=by omega
 obtain ⟨v,hv,dv⟩:=r.get (List.getElem?_eq_getElem hi')
 refine ⟨⟨vs,v,aM sg h,hv⟩,λy H' ⟨p,x,hp,e0,e1,e2⟩=>?_⟩
 subst e0 e1
 have ex:x=v:=by have:=e2 vs (aM sg h); rw [hv] at this; exact (Option.some.inj this).symm
 subst ex
 refine ⟨ak hp _,λM hM sv=>?_⟩
 rw [rV,show xs.getD i .non=xs[i] by simp [List.getD,hi']]
 exact .tup (SqT.of (qC hM hp)) (.cons .int (.cons (dv.mono (sv.trans (az (ak hp _) λ_ z=>z))) .nil))
end
section
variable {X:Cx} {C:Bool} {τ:List Sl} {x y z:D} {a b e c tg it:Expr} {es:List Expr} {pos p q:Pos} {k:Nat} {s:Sl} {xs:List D} {N:Po} {st:Stmt} {rest body els:List Stmt}
theorem aY (h:PE X it (dE X.K true τ (.d (.lst xs)))) (hc:X.calm=true:=by first | rfl | assumption):PI X tg it (dI X.K τ xs):=piW (rH hc h) λσ H R ⟨A,H₀,B,S,k⟩=>aQ S λv H1 e1 d1=>by
 cases d1 with
 | lst h r=>exact ⟨_,rfl,⟨_,aM aW h⟩,k _ H1 e1 (yd h r)⟩
theorem fJ {n:Int} (B:Bk X k) (h:PE X a (dE X.K false τ (.d (.int n)))) (h1:-(2 ^ 62)<=n) (h2:n < 2 ^ 62) (hg:Gl X "range":=by rfl) (hs:starEach [a] X.env=[(false,eval a X.env)]:=by rfl):PI X tg (.Call (.Name "range" p) [a] [] pos) (dI X.K τ (ig 0 n.toNat)):=
 piW (lU (.inl B.calm) hg (B.blt _ (by decide)) (ae h ag hs) hs) λσ H R ⟨A,H₀,B,S,k⟩=>eg S λvs H1 e1 d1=>by
   cases d1 with
   | cons d r=>
     cases r
     cases d
     exact ⟨n,rfl,h1,h2,k _ H1 e1 (ql 0 _)⟩
theorem va {m n:Int} (B:Bk X k) (h:PE X a (dE X.K false τ (.d (.int m)))) (h':PE X b (dE X.K false τ (.d (.int n)))) (h1:-(2 ^ 62)<=m/\m < 2 ^ 62/\-(2 ^ 62)<=n/\n < 2 ^ 62) (hg:Gl X "range":=by rfl) (hs:starEach [a,b] X.env=[(false,eval a X.env),(false,eval b X.env)]:=by rfl)
   (hs2:starEach [b] X.env=[(false,eval b X.env)]:=by rfl):PI X tg (.Call (.Name "range" p) [a,b] [] pos) (dI X.K τ (ig m (n - m).toNat)):=
 piW (sZ (.inl B.calm) hg (B.blt _ (by decide)) (ae h (ae h' ag hs2) (by rw [hs,hs2])) hs hs2) λσ H R ⟨A,H₀,B,S,k⟩=>eg S λvs H1 e1 d1=>by
   cases d1 with
   | cons d r=>
     cases r with
     | cons d' r=>
       cases r
       cases d
       cases d'
       exact ⟨m,n,rfl,h1,k _ H1 e1 (ql m _)⟩
theorem A2 {ts:List Expr} {m:Nat} {tp:Pos} (B:Bk X k) (h:PE X a (dE X.K true τ (.d (.lst xs)))) (hg:Gl X "enumerate":=by rfl) (hs:starEach [a] X.env=[(false,eval a X.env)]:=by rfl):PI X (.Tuple ts m tp) (.Call (.Name "enumerate" p) [a] [] pos) (dI X.K τ (nA xs)):=
 piW (nc B.calm hg (B.blt _ (by decide)) (ae h ag hs) hs) λσ H R ⟨A,H₀,B,S,k⟩=>eg S λvs H1 e1 d1=>by
   cases d1 with
   | cons d r=>
     cases r
     cases d with
     | lst h r=>exact ⟨_,rfl,⟨_,aM aW h⟩,k _ H1 e1 (zT h r)⟩
theorem wL (i:Nat) {n:Str} (hN:X.N.Nodup) (hi:X.N[i]?=some n:=by rfl) (hx:Loc X.env.scope n:=by first | exact .inl rfl | exact .inr rfl) (hf:X.fn n=true\/X.env.scope.names.lookup n=some .local:=by first | exact .inl rfl | exact .inr rfl | assumption):PG X (.Name n p) (dG X.K τ x (τ.set i (.d x))):=
 pgW (cF (i:=i) hN hi hx hf) λv σ H Q ⟨A,H₀,B,S,d,k⟩=>k _ _ (S.set (ai.refl _) (bs:=[]) (λ_ z=>nomatch z) (iV d))
theorem yo (i j:Nat) {n m:Str} {p2 pt:Pos} {md:Nat} (hc:X.calm=true) (hN:X.N.Nodup) (hi:X.N[i]?=some n:=by rfl) (hj:X.N[j]?=some m:=by rfl) (hx:Loc X.env.scope n:=by first | exact .inl rfl | exact .inr rfl) (hy:Loc X.env.scope m:=by first | exact .inl rfl | exact .inr rfl)
   (hf:X.fn n=true\/X.env.scope.names.lookup n=some .local:=by first | exact .inl rfl | exact .inr rfl | assumption) (hf':X.fn m=true\/X.env.scope.names.lookup m=some .local:=by first | exact .inl rfl | exact .inr rfl | assumption) :
   PG X (.Tuple [.Name n p,.Name m p2] md pt) (dG X.K τ (.tup [x,y]) ((τ.set i (.d x)).set j (.d y))):=by
 refine pgW (wc hc (jW (cF (i:=i) hN hi hx hf) (jW (cF (i:=j) hN hj hy hf') rK))) λv σ H Q ⟨A,H₀,B,S,d,k⟩=>?_
 cases d with
 | tup h r=>
   cases r with
   | cons d1 r=>
     cases r with
     | cons d2 r=>
       cases r
       have S1:=S.set (i:=i) (ai.refl _) (bs:=[]) (λ_ z=>nomatch z) (iV d1)
       have sub:∀ b,own A (upB B i []) b->own A B b:=λb z=>z.elim .inl λ⟨j,z⟩=>(bg z).elim (λz=>nomatch z.2) λz=>.inr ⟨j,z.2⟩
       exact ⟨_,_,rfl,ba aW h,rfl,_,_,rfl,_,_,rfl,rfl,k _ _ (S1.set (i:=j) (ai.refl _) (bs:=[]) (λ_ z=>nomatch z) (iV (d2.mono (az (ai.refl _) sub))))⟩
theorem Sta.base {K:PySem.W.Frag} {A:Addr->Prop} {H₀ H:Hp} {τ:List Sl} {B:Nat->List Addr} {σ:L2.St} (S:Sta K A H₀ τ B σ H):ai H₀ (hd H λb=>∃ i,b ∈ B i)/\Sta K A (hd H λb=>∃ i,b ∈ B i) τ B σ H:=by
 have s0:ai H₀ (hd H λb=>∃ i,b ∈ B i):=λb o h=>ao.mpr ⟨λ⟨i,z⟩=>(by rw [S.fr i b z] at h; cases h),S.same _ _ h⟩
 exact ⟨s0,aW,S.len,S.sl,λi b hb=>by
   cases e:hd H (λb=>∃ i,b ∈ B i) b with
   | none=>rfl
   | some o=>exact absurd ⟨i,hb⟩ (ao.mp e).1,S.uq,λb hb=>let ⟨o,q⟩:=S.ad b hb; ⟨o,s0 _ _ q⟩,S.bd⟩
theorem Sta.back {K:PySem.W.Frag} {A:Addr->Prop} {H₀ G H:Hp} {τ:List Sl} {B:Nat->List Addr} {σ:L2.St} (S:Sta K A G τ B σ H) (s:ai H₀ G) (ad:∀ b,A b->∃ o,H₀ b=some o):Sta K A H₀ τ B σ H:=
 ⟨s.trans S.same,S.len,S.sl,λi b hb=>s.free (S.fr i b hb),S.uq,ad,S.bd⟩
theorem yx {M:Nat->List Sl->Prop} {T:Nat->List Sl->List Sl} (B:Bk X k) (hi:PI X tg it (dI X.K τ xs)) (h0:M 0 τ) (hg:∀ i (h:i < xs.length) τ',M i τ'->PG X tg (dG X.K τ' xs[i] (T i τ')))
   (hb:∀ i,i < xs.length->∀ τ',M i τ'->PSs X body (dS X.K (T i τ') { N with nx:=M (i + 1),ct:=M (i + 1),bk:=N.nx })) (hn:∀ τ',M xs.length τ'->N.nx τ')
   (hs:∀ x,foldedSetIterable it X.env x=pure x:=by intro _; rfl):PS X (.For tg it body [] pos) (dS X.K τ N):=by
 have hg':PG X tg λv σ H Q=>∃ (i:Nat) (h:i < xs.length) (τ':List Sl),M i τ'/\dG X.K τ' xs[i] (T i τ') v σ H Q:=λpins s σ H v u Q I r ⟨i,h,τ',m,q⟩=>hg i h τ' m pins s σ H v u Q I r q
 have hb':PSs X body λD σ H=>∃ i τ',i < xs.length/\M i τ'/\dS X.K (T i τ') { N with nx:=M (i + 1),ct:=M (i + 1),bk:=N.nx } D σ H:=λpins s σ H D I ⟨i,τ',h,m,q⟩=>hb i h τ' m pins s σ H D I q
 refine psW (qj B.po hi hg' hb' hs) λD σ H ⟨A,H₀,B,S,Me⟩=>⟨A,H₀,B,S,λJ H1 e1 yl=>?_⟩
 obtain ⟨s0,S1⟩:=(S.mono e1).base
 have sub:∀ {H'},ai (hd H1 λb=>∃ i,b ∈ B i) H'->ai (hd H1 (own A B)) H':=λe=>(az (ai.refl _) λ_ z=>.inr z).trans e
 refine ⟨λi m σ' H'=>m=xs.length - i/\i<=xs.length/\∃ τ' B',M i τ'/\Sta X.K A (hd H1 λb=>∃ i,b ∈ B i) τ' B' σ' H',⟨xs.length,rfl,Nat.zero_le _,τ,B,h0,S1⟩,?_⟩
 rintro i m σ' H' ⟨rfl,hi,τ',B',hM,S'⟩
 obtain ⟨y1,y2⟩:=yl H' (sub S'.same)
 by_cases hlt:i < xs.length
 · obtain ⟨g,y⟩:=y2 i hlt
   refine .inr ⟨g,λσ2 H2=>∃ τ2 B2,M (i + 1) τ2/\Sta X.K A (hd H1 λb=>∃ i,b ∈ B i) τ2 B2 σ2 H2,λσ2 H2 q=>⟨xs.length - (i + 1),by omega,rfl,hlt,q⟩,λx H2 hy=>?_⟩
   obtain ⟨e2,dx⟩:=y x H2 hy
   have S2:=S'.mono e2
   refine ⟨i,hlt,τ',hM,A,_,B',S2,dx (own A B') S'.dm ?_,λσ3 B3 S3=>⟨i,τ',hlt,hM,A,_,B3,S3,?_⟩⟩
   · intro b o z
     obtain ⟨z1,z2⟩:=ao.mp z
     have z3:hd H1 (λb=>∃ i,b ∈ B i) b=some o:=ao.mpr ⟨λy=>z1 (.inr y),z2⟩
     refine ao.mpr ⟨λy=>?_,S'.same _ _ z3⟩
     rcases y with y | ⟨l,y⟩
     · exact z1 (.inl y)
     · rw [S'.fr l b y] at z3; cases z3
   · exact ⟨λτ3 B3 σ3 H3 m S3=>⟨τ3,B3,m,S3⟩,λτ3 B3 σ3 H3 m S3=>Me.nx τ3 B3 σ3 H3 m (S3.back s0 S.ad),λτ3 B3 σ3 H3 m S3=>⟨τ3,B3,m,S3⟩,
       λv H3 bs s3 hr e3 hf q=>Me.rt v H3 bs s3 hr (s0.trans e3) (λb hb=>⟨s0.free (hf b hb).1,(hf b hb).2⟩) q,λH3 e3=>Me.xc H3 (s0.trans e3)⟩
 · have e:i=xs.length:=by omega
   subst e
   exact .inl ⟨y1 _ (Nat.le_refl _),Me.nx τ' B' σ' H' (hn τ' hM) (S'.back s0 S.ad)⟩
theorem cb (j:Nat) {n:Str} (M:Nat->List Sl->Prop) {g:Nat->D} (B:Bk X k) (hN:X.N.Nodup) (hi:PI X (.Name n p) it (dI X.K τ xs)) (hx:∀ i (h:i < xs.length),xs[i]=g i) (h0:M 0 τ)
   (hb:∀ i,i < xs.length->∀ τ',M i τ'->PSs X body (dS X.K (τ'.set j (.d (g i))) { N with nx:=M (i + 1),ct:=M (i + 1),bk:=λ_=>False }))
   (hr:∀ τ',M xs.length τ'->PSs X rest (dS X.K τ' N)) (hs:∀ x,foldedSetIterable it X.env x=pure x:=by intro _; rfl) (hi':X.N[j]?=some n:=by rfl) (hl:Loc X.env.scope n:=by first | exact .inl rfl | exact .inr rfl)
   (hf:X.fn n=true\/X.env.scope.names.lookup n=some .local:=by first | exact .inl rfl | exact .inr rfl | assumption):PSs X (.For (.Name n p) it body [] pos :: rest) (dS X.K τ N):=
 a7 (M:=M xs.length) (yx (M:=M) (T:=λi τ'=>τ'.set j (.d (g i))) B hi h0 (λi h τ' m=>by rw [hx i h]; exact wL j hN hi' hl hf)
   (λi h τ' m=>kS (hb i h τ' m) λD σ H ⟨A,H₀,B,S,Me⟩=>⟨A,H₀,B,S,Me.nx,λ_ _ _ _ z=>z.elim,Me.ct,Me.rt,Me.xc⟩) (λ_ m=>m) hs) hr
theorem yX (j l:Nat) {n m:Str} {p2 pt:Pos} {md:Nat} (M:Nat->List Sl->Prop) {g g':Nat->D} (B:Bk X k) (hN:X.N.Nodup) (hi:PI X (.Tuple [.Name n p,.Name m p2] md pt) it (dI X.K τ xs)) (hx:∀ i (h:i < xs.length),xs[i]=.tup [g i,g' i]) (h0:M 0 τ)
   (hb:∀ i,i < xs.length->∀ τ',M i τ'->PSs X body (dS X.K ((τ'.set j (.d (g i))).set l (.d (g' i))) { N with nx:=M (i + 1),ct:=M (i + 1),bk:=λ_=>False }))
   (hr:∀ τ',M xs.length τ'->PSs X rest (dS X.K τ' N)) (hs:∀ x,foldedSetIterable it X.env x=pure x:=by intro _; rfl) (hi':X.N[j]?=some n:=by rfl) (hj':X.N[l]?=some m:=by rfl) (hl:Loc X.env.scope n:=by first | exact .inl rfl | exact .inr rfl) (hl':Loc X.env.scope m:=by first | exact .inl rfl | exact .inr rfl)
   (hf:X.fn n=true\/X.env.scope.names.lookup n=some .local:=by first | exact .inl rfl | exact .inr rfl | assumption) (hf':X.fn m=true\/X.env.scope.names.lookup m=some .local:=by first | exact .inl rfl | exact .inr rfl | assumption):PSs X (.For (.Tuple [.Name n p,.Name m p2] md pt) it body [] pos :: rest) (dS X.K τ N):=
 a7 (M:=M xs.length) (yx (M:=M) (T:=λi τ'=>(τ'.set j (.d (g i))).set l (.d (g' i))) B hi h0 (λi h τ' m=>by rw [hx i h]; exact yo j l B.calm hN hi' hj' hl hl' hf hf')
   (λi h τ' m=>kS (hb i h τ' m) λD σ H ⟨A,H₀,B,S,Me⟩=>⟨A,H₀,B,S,Me.nx,λ_ _ _ _ z=>z.elim,Me.ct,Me.rt,Me.xc⟩) (λ_ m=>m) hs) hr
theorem fo {n:Nat} (i:Nat) (h:i < (ig 0 n).length):(ig 0 n)[i]=.int (i:Nat):=by rw [mI,Int.zero_add]
theorem yj {bs:List Int} (i:Nat) (h:i < (bs.map D.int).length):(bs.map D.int)[i]=.int (bs.getD i 0):=by
 have:i < bs.length:=by simpa using h
 simp [this]
theorem uo {xs:List D} (i:Nat) (h:i < xs.length):xs[i]=xs.getD i .non:=by simp [h]
theorem Bb {bs:List Int} (i:Nat) (h:i < (nA (bs.map D.int)).length):(nA (bs.map D.int))[i]=.tup [.int (i:Nat),.int (bs.getD i 0)]:=by
 have:i < bs.length:=by rw [iq] at h; simpa using h
 rw [rV]
 simp [this]
end
end Hy
namespace Ev
open PySem PySem.Spec PyProof.Rows L2
theorem gf {X:Cx} {gT:TG} {y:Str} {py spos:Pos} {elt tg iter:Expr} {ifs:List Expr} {scope:Scope} {N:List Str} {caps:List (Option Nat)} {pos:Pos} {wi:TI} {In:TG->TT->TE->Prop} (hT:PG X (.Name y py) gT) (c:dg X scope N caps) (hi:PI X tg iter wi)
   (hs:∀ x,foldedSetIterable iter X.env x=pure x)
   (hin:∀ g tt te,In g tt te->∀ s H fp,PG (aH X s H scope N fp) tg g/\PTs (aH X s H scope N fp) ifs tt/\PE (aH X s H scope N fp) elt te)
   (hsw:swapsWith (.ListComp elt [⟨tg,iter,ifs,0⟩] scope pos) (some (.Name y py)) spos.line X.env=pure true) :
   PS X (.Assign [.Name y py] (.ListComp elt [⟨tg,iter,ifs,0⟩] scope pos) spos) (zt (eh In caps wi) gT):=by
 intro pins s σ H D I h
 rw [exec_Assign_Name_used _ _ _ _ hsw]
 refine wpAny_bind (wpAny_standAt (wpAny_bind ?_))
 show wpAny _ _ (do let _ <- comprehension (.ListComp elt [⟨tg,iter,ifs,0⟩] scope pos) scope X.env _ (newList []) false _ (some (assign (.Name y py) X.env))) _ _ s
 refine wpAny_bind ?_
 have hcl:=q0 (gI I c)
 refine wpAny_comprehension_free (use:=some (assign (.Name y py) X.env)) (Q:=λ_ s'=>wpAny (model X.prog X.w) X.A (pure ()) (λ_ s''=>wpAny (model X.prog X.w) X.A (pure Flow.next) (SP X pins D) X.xe s'') X.xe s') (g:=⟨tg,iter,ifs,0⟩) (gs:=[]) rfl hs hcl c.kind c.loc ?_
 show wpAny _ _ (eval iter X.env) _ _ s
 refine thn (hi pins s σ H _ I h) λv s1 h1=>thn h1 λitv s2 h2=>?_
 obtain ⟨kd,it,fp,tn,J,H2,e,I2,hck,T,st2,f2,g,tt,te,hI,q⟩:=h2
 have hc:=qX (scope:=scope) (N:=N) (fp:=fp) hck I2
 subst e
 obtain ⟨Z,⟨m0,z0⟩,turn⟩:=q s2.heap.objs.size (I2.hok.fresh (Nat.le_refl _))
 have ho:∀ b ∈ fp,∃ o,s2.heap.get? b=some o:=λb hb=>let ⟨o,e,_⟩:=T.obj _ _ st2 b hb; ⟨o,e⟩
 have I4:=oP (scope:=scope) (N:=N) (caps:=caps) I2 f2 ho c
 obtain ⟨hg,ht,he⟩:=hin g tt te hI s2 H2 fp
 refine wpAny_newObj_type (lA ?_) (by show 0<=sizeLine; decide)
 have hC:(s2.heap.push { cls:=.type "list",dict:=none,data:=.seq ([]:List Value).toArray }).objs.size=s2.heap.objs.size + 1:=Heap.size_push ..
 dsimp only
 rw [hC]
 have kp:∀ b o,s2.heap.get? b=some o->(pushCells ((s2.heap.push { cls:=.type "list",data:=.seq ([]:List Value).toArray }).push { cls:=.type "dict",data:=.dict #[] }) scope.names).get? b=some o:=λb o e=>
   pushCells_keeps _ _ b o (Heap.get?_push_of_some _ (Heap.get?_push_of_some _ e))
 have st4:tn 0 (pushCells ((s2.heap.push { cls:=.type "list",data:=.seq ([]:List Value).toArray }).push { cls:=.type "dict",data:=.dict #[] }) scope.names):=T.keep _ _ _ st2 λb _ o e=>kp b o e
 have stat:∀ {H':Hp},(∀ b ∈ fp,H' b=none)->∀ b ∈ fp,k8 (aH X s2 H2 scope N fp) [] H' b:=λhn b hb=>
   ⟨hn b hb,(I4.ok.exf b hb).1,I4.ok.exfs b hb,.inl hb,(I4.ok.exf b hb).2,λp hp=>absurd (show p ∈ ([]:List (Addr × Obj)) from hp) (by simp)⟩
 have fr4:∀ b ∈ fp,(upd H2 s2.heap.objs.size (.lst [])) b=none:=λb hb=>by
   obtain ⟨o,e⟩:=ho b hb
   rw [av (Nat.ne_of_lt (Heap.lt_size e))]; exact (f2 b hb).1
 have loop:codeAny (model X.prog X.w) X.A (.compLoop (.ListComp elt [⟨tg,iter,ifs,0⟩] scope pos) 0 (.ref it) (.ref s2.heap.objs.size) (aH X s2 H2 scope N fp).env)
     (compPost (model X.prog X.w) X.A X.xe (some (assign (.Name y py) X.env)) (λ_ s'=>wpAny (model X.prog X.w) X.A (pure ()) (λ_ s''=>wpAny (model X.prog X.w) X.A (pure Flow.next) (SP X pins D) X.xe s'') X.xe s') (.ref s2.heap.objs.size) (s2.heap.objs.size + 1))
     { s2 with heap:=pushCells ((s2.heap.push { cls:=.type "list",data:=.seq ([]:List Value).toArray }).push { cls:=.type "dict",data:=.dict #[] }) scope.names }:=by
   refine kf (λn s'=>∃ i σ' H',Inv (aH X s2 H2 scope N fp) [] σ' H' s'/\tn i s'.heap/\(∀ b ∈ fp,H' b=none)/\Z i n σ' H') ?_ m0 ⟨0,_,_,I4,st4,fr4,z0⟩
   rintro n s3 ⟨i,σ3,H3,I3,st3,fr3,w3⟩
   rcases turn i n σ3 H3 w3 with ⟨stop,qn⟩ | ⟨go,step⟩
   · refine thn (T.done (aH X s2 H2 scope N fp) rfl rfl rfl hc i [] s3 σ3 H3 _ I3 (stat fr3) st3 stop) λr s5 ⟨hr,I5⟩=>?_
     subst hr
     obtain ⟨m,hn,_⟩:=id I5.loc
     have I6:Inv X pins σ H3 s5:=by
       have lt:∀ b o,s2.heap.get? b=some o->b ≠ s2.heap.objs.size + 1:=λb o e=>Nat.ne_of_lt (Nat.lt_succ_of_lt (Heap.lt_size e))
       have u:=I5.base
       have u':Un (frs X.stack) fp H2 H3 s2.heap s5.heap:=⟨λb o e n1 n2 n3=>u.keep b o e n1 n2 n3,λb o e n1 n2 n3=>u.slot b o e n1 n2 n3,u.free,λb o e n1=>u.there b o e n1,u.tups,u.frzs,u.tbls⟩
       exact I2.l5 (s':=s5) I5.os u' I5.hok I5.bare λb hb=>⟨(f2 b hb).2.2.2.1,(f2 b hb).2.1,(f2 b hb).2.2.2.2.1,(f2 b hb).2.2.2.2.2⟩
     have fC:H3 (s2.heap.objs.size + 1)=none:=I5.free
     have fk:k8 X pins H3 (s2.heap.objs.size + 1):=I2.oA (Nat.le_succ _) fC
     obtain ⟨oC,es,ep,hoC,hdC,rC⟩:=id hn
     have hpin:=I6.pinned (fp:=[s2.heap.objs.size + 1]) (λb hb=>by rw [List.mem_singleton.mp hb]; exact fk) (λb hb=>by rw [List.mem_singleton.mp hb]; exact ⟨oC,hoC,λv z=>by rw [hdC] at z; cases z⟩)
     have hmem:(s2.heap.objs.size + 1,oC) ∈ gR [s2.heap.objs.size + 1] s5.heap:=bY (List.mem_singleton_self _) hoC
     refine thn (hT _ s5 σ H3 (.ref s2.heap.objs.size) (.ref s2.heap.objs.size) _ hpin rfl qn) λ_ s6 ⟨σ6,H6,I7,q7⟩=>?_
     obtain ⟨p1,p2,p3,p4,p5⟩:=I7.pin _ (List.mem_append_right _ (List.mem_append_right _ hmem))
     refine ⟨m,⟨oC,es,ep,p1,hdC,rC⟩,λh' sb=>wpAny_pure (wpAny_pure ?_)⟩
     refine ⟨σ6,H6,?_,q7⟩
     exact (I7.eA).turned (t':=s6.toks) (it:=s2.heap.objs.size + 1) (λb o hb e=>(sb.2 b hb).trans e) p2 p3 fk.2.2.2.1 fk.2.2.2.2.1 fk.2.2.2.2.2
   · refine thn (T.item (aH X s2 H2 scope N fp) rfl rfl rfl hc i [] s3 σ3 H3 _ I3 (stat fr3) st3 go) λr s4 ⟨u,hr,h4⟩=>?_
     subst hr
     refine thn h4 λ_ s5 ⟨x,H5,I5,r5,y5,st5,fr5⟩=>?_
     have I5':=I5.pinned (stat fr5) (T.obj _ _ st5)
     refine thn (hg _ s5 σ3 H5 x u _ I5' r5 (step x H5 y5)) λ_ s6 ⟨σ6,H6,I6,q6⟩=>?_
     have again:∀ {s7:Shared} {σ7:L2.St} {H7:Hp} {m':Nat},Inv (aH X s2 H2 scope N fp) ([]++gR fp s5.heap) σ7 H7 s7->m' < n->Z (i + 1) m' σ7 H7 ->
         ∃ m,m < n/\∃ i σ' H',Inv (aH X s2 H2 scope N fp) [] σ' H' s7/\tn i s7.heap/\(∀ b ∈ fp,H' b=none)/\Z i m σ' H':=λ{s7 σ7 H7 m'} I7 hm z7=>by
       refine ⟨m',hm,i + 1,σ7,H7,I7.eA,T.keep _ _ _ st5 λb hb o e=>(I7.pin (b,o) (List.mem_append_right _ (List.mem_append_right _ (bY hb e)))).1,λb hb=>?_,z7⟩
       obtain ⟨o,e,d⟩:=T.obj _ _ st5 b hb
       exact (I7.pin (b,o) (List.mem_append_right _ (List.mem_append_right _ (bY hb e)))).2.1
     refine thn (ht _ s6 σ6 H6 _ I6 q6) λok s7 ⟨H7,I7,q7⟩=>?_
     cases ok with
     | false=>
       rw [if_neg (by decide)] at q7
       obtain ⟨m',hm,z7⟩:=q7
       exact again I7 hm z7
     | true=>
       rw [if_pos rfl] at q7
       refine thn (he _ s7 σ6 H7 _ I7 q7) λv' s8 ⟨v,H8,I8,r8,vs,m',q8,l8,hm,z8⟩=>?_
       refine thn (gy (X:=aH X s2 H2 scope N fp) _ s8 σ6 H8 (.ref s2.heap.objs.size) [v] (.ref s2.heap.objs.size) [v'] (λ_ H9=>H9=upd H8 s2.heap.objs.size (.lst (vs++[v]))) I8 rfl (.cons r8 .nil) ⟨_,vs,v,rfl,rfl,q8,l8,rfl⟩) λ_ s9 ⟨_,H9,I9,_,e9⟩=>?_
       subst e9
       exact again I9 hm z8
 exact codeAny_compStart_list loop (T.self _ 0 _ _ _ st4 loop)
end Ev
namespace Hy
open PySem PySem.Spec PyProof.Rows L2
open Ev (D Den aq ak ba aM aH fu dg PTs cE eh gf)
noncomputable def slot:List Str->Str->Option Nat
 | [],_=>none
 | y :: r,x=>if x=y then some 0 else (slot r x).map (· + 1)
theorem slot_get:∀ {N:List Str} {x:Str} {i:Nat},slot N x=some i->N[i]?=some x
 | [],_,_,h=>by cases h
 | y :: r,x,i,h=>by
   unfold slot at h
   split at h
   · cases h; rename_i e; rw [e]; rfl
   · cases e:slot r x with
     | none=>rw [e] at h; cases h
     | some j=>rw [e] at h; cases h; simpa using slot_get e
noncomputable def wd (scope sc:Scope):Scope:={ scope with names:=scope.names.map λ(n,k)=>if (k == .free && sc.kind == .function && sc.names.lookup n == some .cell) then (n,.cell) else (n,k) }
noncomputable def bNm (scope:Scope):List Str:=(scope.names.filter λp=>(p.2 == .local || p.2 == .cell || p.2 == .free) && p.1 != (".0" : Str)).map (·.1)
noncomputable def bCp (No:List Str) (scope:Scope):List (Option Nat):=(bNm scope).map λx=>if (x,NameKind.free) ∈ scope.names then slot No x else none
noncomputable def bOk (sc scope:Scope):Bool:=
 scope.kind == .function && scope.names.all (λp=>p.2 != .local || scope.names.lookup p.1 == some .local) && scope.names.all (λp=>p.2 != .free || sc.names.lookup p.1 == some .cell)
   && scope.names.all (λp=>p.2 != .free || (!decide ((p.1,NameKind.cell) ∈ scope.names) && !decide ((p.1,NameKind.local) ∈ scope.names))) && decide (bNm scope++[("#" : Str)]).Nodup
   && (wd scope sc).names.all (λp=>p.1 != ("#" : Str))
theorem vR {a b:Bool} (h:(a && b)=true):a=true/\b=true:=by rw [Bool.and_eq_true] at h; exact h
theorem tQ {x:Str} {q:NameKind}:∀ {names:List (Str × NameKind)},names.lookup x=some q->(x,q) ∈ names
 | (y,k) :: r,h=>by
   rw [List.lookup_cons] at h
   split at h
   · rename_i e; cases h; rw [eq_of_beq e]; exact List.mem_cons_self ..
   · exact List.mem_cons_of_mem _ (tQ h)
theorem gq {X:Cx} {scope:Scope} (h:bOk X.env.scope scope=true):dg X scope (bNm scope++[("#" : Str)]) (bCp X.N scope)/\(bNm scope++[("#" : Str)]).Nodup:=by
 unfold bOk at h
 obtain ⟨h,h6⟩:=vR h
 obtain ⟨h,h5⟩:=vR h
 obtain ⟨h,h4⟩:=vR h
 obtain ⟨h,h3⟩:=vR h
 obtain ⟨h1,h2⟩:=vR h
 rw [List.all_eq_true] at h2 h3 h4 h6
 refine ⟨⟨eq_of_beq h1,λx hx hk=>?_,λx hx hk=>?_,λx hx hm=>?_,λx hx hm=>?_,?_,λj i hj=>?_,?_⟩,of_decide_eq_true h5⟩
 · have:=h2 x hx; rw [hk] at this; simpa using this
 · have:=h3 x hx; rw [hk] at this; show X.env.scope.names.lookup x.1=_; simpa using this
 · have:=h4 _ hx; simp [hm] at this
 · have:=h4 _ hx; simp [hm] at this
 · unfold bCp; rw [List.length_append,List.length_map]; rfl
 · unfold bCp at hj
   rw [List.getElem?_map] at hj
   cases e:(bNm scope)[j]? with
   | none=>rw [e] at hj; cases hj
   | some x=>
     rw [e] at hj
     simp only [Option.map_some,Option.some.injEq] at hj
     split at hj
     · exact ⟨x,by rw [List.getElem?_append_left (List.getElem?_eq_some_iff.mp e).1]; exact e,slot_get hj,by assumption⟩
     · cases hj
 · refine ⟨("#" : Str),?_,λhv=>?_⟩
   · unfold bCp; rw [List.length_map,List.getElem?_append_right (Nat.le_refl _),Nat.sub_self]; rfl
   · have key:∀ q,(wd scope X.env.scope).names.lookup ("#" : Str) ≠ some q:=λq hq=>by
       have:=h6 _ (tQ hq)
       simp at this
     rcases hv with hv | hv | hv <;> exact key _ hv
noncomputable abbrev cpX (X:Cx) (s:Shared) (H:Hp) (scope:Scope) (fp:List Addr):Cx:=aH X s H scope (bNm scope++[("#" : Str)]) fp
theorem Bk.comp {X:Cx} {k:Nat} (B:Bk X k) (s:Shared) (H:Hp) (scope:Scope) (fp:List Addr):Bk (cpX X s H scope fp) k:=⟨B.room,B.calm,B.blt,PassesOwn.never⟩
noncomputable def bE (τ:List Sl) (caps:List (Option Nat)):List Sl:=caps.map λo=>match o with
 | some i=>match τ[i]? with
   | some (.d x)=>.d x
   | _=>.un
 | none=>.un
theorem mB {X:Cx}:PTs X [] λ_ H Q=>Q true H:=λpins s σ H Q I q=>by
 show wpAny _ _ (pure true) _ _ _
 exact wpAny_pure ⟨H,I,q⟩
section
variable {X:Cx} {C:Bool} {τ:List Sl} {x y z:D} {a b e c tg it elt:Expr} {es ifs:List Expr} {pos p q:Pos} {k:Nat} {xs:List D} {scope:Scope}
structure Cmp (X:Cx) (elt tg it:Expr) (ifs:List Expr) (scope:Scope) (τ:List Sl) (ys:List D):Prop where
 ex:∃ (In:TG->TT->TE->Prop) (caps:List (Option Nat)) (N:List Str) (wi:TI),dg X scope N caps/\PI X tg it wi/\(∀ g tt te,In g tt te->∀ s H fp,PG (aH X s H scope N fp) tg g/\PTs (aH X s H scope N fp) ifs tt/\PE (aH X s H scope N fp) elt te) /\
   ∀ C σ H Q,dE X.K C τ (.o ys) σ H Q->eh In caps wi σ H Q
 hs:∀ x,foldedSetIterable it X.env x=pure x
theorem eZ {ys:List D} (h:Cmp X elt tg it ifs scope τ ys):PE X (.ListComp elt [⟨tg,it,ifs,0⟩] scope pos) (dE X.K C τ (.o ys)):=by
 obtain ⟨In,caps,N,wi,h1,h2,h3,h4⟩:=h.ex
 exact peW (cE h1 h2 h.hs h3) (h4 C)
theorem pU (i:Nat) {n:Str} {p spos:Pos} {rest:List Stmt} {N:Po} {ys:List D} {s:Sl} (hN:X.N.Nodup) (h:Cmp X elt tg it ifs scope τ ys) (hz:s=.o ys\/s=.d (.lst ys)) (hr:PSs X rest (dS X.K (τ.set i s) N)) (hi:X.N[i]?=some n:=by rfl) (hx:Loc X.env.scope n:=by first | exact .inl rfl | exact .inr rfl)
   (hsw:swapsWith (.ListComp elt [⟨tg,it,ifs,0⟩] scope pos) (some (.Name n p)) spos.line X.env=pure true:=by rfl) (hf:X.fn n=true\/X.env.scope.names.lookup n=some .local:=by first | exact .inl rfl | exact .inr rfl | assumption) :
   PSs X (.Assign [.Name n p] (.ListComp elt [⟨tg,it,ifs,0⟩] scope pos) spos :: rest) (dS X.K τ N):=by
 obtain ⟨In,caps,N',wi,h1,h2,h3,h4⟩:=h.ex
 have h5:∀ σ H Q,dE X.K true τ s σ H Q->eh In caps wi σ H Q:=by
   rcases hz with rfl | rfl
   · exact h4 true
   · intro σ H Q q
     obtain ⟨A,H₀,B,S,k⟩:=fU q
     refine h4 true σ H Q ⟨A,H₀,B,S,λv H' bs e hf q=>?_⟩
     obtain ⟨u,e1,d⟩:=q.den (G':=Hy.hd H' (vw true A B)) (az (ai.refl _) λ_ z=>.inl z) (λb hb o ho=>ao.mpr ⟨λz=>(by obtain ⟨_,q⟩:=S.vd (C:=true) b z; rw [(hf b hb).1] at q; cases q),ho⟩) rfl
     cases e1
     exact k v H' e d
 exact a7 (M:=(·=τ.set i s)) (psW (gf (cF (i:=i) hN hi hx hf) h1 h2 h.hs h3 hsw) λD σ H ⟨A,H₀,B,S,Me⟩=>h5 _ _ _ ⟨A,H₀,B,S,λv H' bs e hf h=>Me.nx _ _ _ _ rfl (S.set e hf h)⟩) λ_ e=>e ▸ hr
theorem pW {T:Nat->List Sl} {t:Nat->Bool} {f:Nat->D} (hc:bOk X.env.scope scope=true) (hi:PI X tg it (dI X.K τ xs)) (hT:∀ i,(T i).length=(bE τ (bCp X.N scope)++[Sl.un]).length/\∀ (l:Nat) (x:D),(bE τ (bCp X.N scope)++[Sl.un])[l]?=some (.d x)->(T i)[l]?=some (.d x))
   (hg:∀ i (h:i < xs.length) s H fp,PG (cpX X s H scope fp) tg (dG X.K (bE τ (bCp X.N scope)++[Sl.un]) xs[i] (T i)))
   (ht:∀ i,i < xs.length->∀ s H fp,PTs (cpX X s H scope fp) ifs (dT X.K (T i) (t i)))
   (he:∀ i,i < xs.length->t i=true->∀ s H fp,PE (cpX X s H scope fp) elt (dE X.K true (T i) (.d (f i)))) (hl:xs.length < 1000000) (hs:∀ x,foldedSetIterable it X.env x=pure x:=by intro _; rfl) :
   Cmp X elt tg it ifs scope τ (((List.range xs.length).filter t).map f):=by
 obtain ⟨cap,_⟩:=gq hc
 generalize hτ:bE τ (bCp X.N scope)++[Sl.un]=τb at *
 refine ⟨⟨λg tt te=>g=(λv σ H Q=>∃ (i:Nat) (h:i < xs.length),dG X.K τb xs[i] (T i) v σ H Q)/\tt=(λσ H Q=>∃ i,i < xs.length/\dT X.K (T i) (t i) σ H Q)/\te=(λσ H Q=>∃ i,i < xs.length/\t i=true/\dE X.K true (T i) (.d (f i)) σ H Q),_,_,_,cap,hi,?_,?_⟩,hs⟩
 · rintro g tt te ⟨rfl,rfl,rfl⟩ s H fp
   exact ⟨λpins s' σ H' v u Q I r ⟨i,h,q⟩=>hg i h s H fp pins s' σ H' v u Q I r q,λpins s' σ H' Q I ⟨i,h,q⟩=>ht i h s H fp pins s' σ H' Q I q,λpins s' σ H' Q I ⟨i,h,h',q⟩=>he i h h' s H fp pins s' σ H' Q I q⟩
 rintro C σ H Q ⟨A,H₀,B,S,kk⟩
 refine ⟨A,H₀,B,S,λJ H1 e1 yl=>⟨_,_,_,⟨rfl,rfl,rfl⟩,λD hD=>?_⟩⟩
 have S1:=S.mono e1
 have nD:¬ own A B D:=λz=>by obtain ⟨o,q⟩:=S1.dm D z; rw [hD] at q; cases q
 have noN:∀ (l:Nat) (t:Nd),τb[l]?=some (.n t)->0 ≠ 0:=λl t h=>by
   exfalso
   rw [<- hτ] at h
   have:=List.mem_of_getElem? h
   rcases List.mem_append.mp this with z | z
   · unfold bE at z
     obtain ⟨o,_,ho⟩:=List.mem_map.mp z
     split at ho
     · split at ho <;> cases ho
     · cases ho
   · cases List.mem_singleton.mp z
 have slots:∀ {σ':L2.St} {H':Hp},ai H1 H'->(∃ o,H' D=some o)->σ'.length=τb.length->(∀ (l:Nat) (s:Sl),τb[l]?=some s->cj X.K (hd H' λb=>own A B b\/b=D) H' (σ'[l]?).join [] s)->Sta X.K (λb=>own A B b\/b=D) H' τb (λ_=>[]) σ' H':=λ{σ' H'} e1 e2 e3 e4=>
   ⟨ai.refl _,e3,λl s h=>(e4 l s h).mono (az (ai.refl _) λ_ z=>z.elim id λ⟨_,z⟩=>(nomatch z)) (ai.refl _),λ_ _ z=>(nomatch z),λ_ _ _ z=>(nomatch z),λb z=>z.elim (λz=>let ⟨o,q⟩:=S1.dm b z; ⟨o,e1 _ _ q⟩) λz=>z ▸ e2,λ_ _ z=>(nomatch z)⟩
 refine ⟨λi m σ' H'=>m=xs.length - i/\i<=xs.length/\ai H1 H'/\(∃ vs,H' D=some (.lst vs)/\vs.length<=i/\aq X.K (hd H' λb=>own A B b\/b=D) vs (((List.range i).filter t).map f)) /\
   σ'.length=τb.length/\∀ (l:Nat) (s:Sl),τb[l]?=some s->cj X.K (hd H' λb=>own A B b\/b=D) H' (σ'[l]?).join [] s,⟨xs.length,rfl,Nat.zero_le _,ak hD _,⟨[],aJ,Nat.le_refl _,.nil⟩,?_,λl s h=>?_⟩,?_⟩
 · rw [<- hτ]; unfold fu bE; rw [List.length_append,List.length_append,List.length_map,List.length_map]; rfl
 · have hv:ai (hd H (own A B)) (hd (upd H1 D (.lst [])) λb=>own A B b\/b=D):=λb o z=>by
     obtain ⟨z1,z2⟩:=ao.mp z
     have z2:=e1 _ _ z2
     have ne:b ≠ D:=λz=>by rw [z,hD] at z2; cases z2
     exact ao.mpr ⟨λy=>y.elim z1 ne,by rw [av ne]; exact z2⟩
   cases s with
   | un=>rfl
   | d x=>
     rw [<- hτ] at h
     have hlt:l < (bCp X.N scope).length:=by
       rcases Nat.lt_or_ge l (bCp X.N scope).length with h' | h'
       · exact h'
       · exfalso
         rw [List.getElem?_append_right (by unfold bE; rw [List.length_map]; exact h')] at h
         cases e:l - (bE τ (bCp X.N scope)).length with
         | zero=>rw [e] at h; cases h
         | succ n=>rw [e] at h; cases h
     rw [List.getElem?_append_left (by unfold bE; rw [List.length_map]; exact hlt)] at h
     rw [List.getElem?_append_left (by unfold fu; rw [List.length_map]; exact hlt)]
     unfold bE at h
     unfold fu
     rw [List.getElem?_map] at h ⊢
     cases e:(bCp X.N scope)[l]? with
     | none=>rw [e] at h; cases h
     | some o=>
       rw [e] at h
       cases o with
       | none=>cases h
       | some i=>
         simp only [Option.map_some,Option.some.injEq] at h
         split at h
         · rename_i x' hx'
           cases h
           obtain ⟨_,u,eu,d⟩:=S.sl i _ hx'
           exact ⟨rfl,u,by simpa using eu,d.mono hv⟩
         · cases h
   | o xs'=>
     exfalso
     rw [<- hτ] at h
     have:=List.mem_of_getElem? h
     rcases List.mem_append.mp this with z | z
     · unfold bE at z
       obtain ⟨o,_,ho⟩:=List.mem_map.mp z
       split at ho
       · split at ho <;> cases ho
       · cases ho
     · cases List.mem_singleton.mp z
   | n t'=>
     exfalso
     rw [<- hτ] at h
     have:=List.mem_of_getElem? h
     rcases List.mem_append.mp this with z | z
     · unfold bE at z
       obtain ⟨o,_,ho⟩:=List.mem_map.mp z
       split at ho
       · split at ho <;> cases ho
       · cases ho
     · cases List.mem_singleton.mp z
   | x E'=>
     exfalso
     rw [<- hτ] at h
     have:=List.mem_of_getElem? h
     rcases List.mem_append.mp this with z | z
     · unfold bE at z
       obtain ⟨o,_,ho⟩:=List.mem_map.mp z
       split at ho
       · split at ho <;> cases ho
       · cases ho
     · cases List.mem_singleton.mp z
 rintro i m σ' H' ⟨rfl,hi,e2,⟨vs,hv1,hv2,hv3⟩,hlen,hsl⟩
 obtain ⟨y1,y2⟩:=yl H' (aW.trans e2)
 by_cases hlt:i < xs.length
 · obtain ⟨g,y⟩:=y2 i hlt
   refine .inr ⟨g,λx H2 hy=>?_⟩
   obtain ⟨e3,dx⟩:=y x H2 hy
   have S2:Sta X.K (λb=>own A B b\/b=D) H' τb (λ_=>[]) σ' H':=slots e2 ⟨_,hv1⟩ hlen hsl
   have o0:∀ b,own (λb=>own A B b\/b=D) (λ_=>([]:List Addr)) b->own A B b\/b=D:=λb z=>z.elim id λ⟨_,z⟩=>(nomatch z)
   have dx':=dx _ S2.dm (λb o z=>by
     obtain ⟨z1,z2⟩:=ao.mp z
     exact ao.mpr ⟨λy=>(o0 b y).elim z1 λy=>(by rw [y,hD] at z2; cases z2),e2 _ _ z2⟩)
   refine ⟨i,hlt,_,_,_,S2.mono e3,dx',λσ2 B2 S3=>?_⟩
   have hB2:∀ j b,b ∈ B2 j->b ≠ D:=λj b hb z=>by
     have:=S3.fr j b hb
     rw [z,hv1] at this
     cases this
   have back:∀ {H5:Hp},ai H2 H5->σ2.length=τb.length/\∀ (l:Nat) (s:Sl),τb[l]?=some s->cj X.K (hd H5 λb=>own A B b\/b=D) H5 (σ2[l]?).join [] s:=λ{H5} e5=>by
     refine ⟨S3.len.trans (hT i).1,λl s h=>?_⟩
     cases s with
     | un=>rfl
     | d x=>
       obtain ⟨_,u,eu,d⟩:=S3.sl l _ ((hT i).2 l x h)
       exact ⟨rfl,u,eu,d.mono (az e5 λ_ z=>.inl z)⟩
     | o xs'=>exact absurd (hsl l _ h) (λ⟨_,_,z,_⟩=>(nomatch z))
     | n t'=>exact absurd rfl (noN l t' h)
     | x E'=>exact absurd (hsl l _ h) (λ⟨_,_,z,_⟩=>(nomatch z))
   refine ⟨i,hlt,_,_,_,S3,λH4 e4=>?_⟩
   cases ht:t i with
   | false=>
     rw [if_neg Bool.false_ne_true]
     obtain ⟨b1,b2⟩:=back e4
     refine ⟨xs.length - (i + 1),by omega,rfl,hlt,e2.trans (e3.trans e4),⟨vs,e4 _ _ (e3 _ _ hv1),by omega,?_⟩,b1,b2⟩
     rw [List.range_succ,List.filter_append,List.map_append,List.filter_cons,ht]
     simpa using hv3.mono (az (e3.trans e4) λ_ z=>z)
   | true=>
     rw [if_pos rfl]
     refine ⟨i,hlt,ht,aQ (S3.mono e4) λv H5 e5 d5=>?_⟩
     have e6:=e3.trans (e4.trans e5)
     have hv5:=e6 _ _ hv1
     refine ⟨vs,xs.length - (i + 1),hv5,Nat.lt_trans (Nat.lt_of_le_of_lt hv2 (Nat.lt_trans hlt hl)) (by decide),by omega,rfl,hlt,?_,?_⟩
     · intro b o z
       have ne:b ≠ D:=λy=>by rw [y,hD] at z; cases z
       rw [av ne]
       exact e6 _ _ (e2 _ _ z)
     have sm:ai (hd H5 λb=>own A B b\/b=D) (hd (upd H5 D (.lst (vs++[v]))) λb=>own A B b\/b=D):=λb o z=>by
       obtain ⟨z1,z2⟩:=ao.mp z
       exact ao.mpr ⟨z1,by rw [av λy=>z1 (.inr y)]; exact z2⟩
     obtain ⟨b1,b2⟩:=back (e4.trans e5)
     refine ⟨⟨vs++[v],aJ,by rw [List.length_append]; exact Nat.succ_le_succ hv2,?_⟩,b1,λl s h=>?_⟩
     · rw [List.range_succ,List.filter_append,List.map_append,List.filter_cons,ht,if_pos rfl]
       refine aq.append (hv3.mono ((az e6 λ_ z=>z).trans sm)) (.cons (d5.mono ((az (ai.refl _) λ_ z=>.inl z).trans sm)) .nil)
     · cases s with
       | un=>rfl
       | d x=>obtain ⟨z1,u,eu,d⟩:=b2 l _ h; exact ⟨z1,u,eu,d.mono sm⟩
       | o xs'=>exact absurd (hsl l _ h) (λ⟨_,_,z,_⟩=>(nomatch z))
       | n t'=>exact absurd rfl (noN l t' h)
       | x E'=>exact absurd (hsl l _ h) (λ⟨_,_,z,_⟩=>(nomatch z))
 · have e:i=xs.length:=by omega
   subst e
   refine .inl ⟨y1 _ (Nat.le_refl _),kk _ _ [D] (e1.trans e2) (λb hb=>?_) ⟨D,vs,rfl,rfl,hv1,hv3.mono (az (ai.refl _) λb z=>z.elim (λz=>.inl (nG z)) λz=>.inr (List.mem_singleton.mp z))⟩⟩
   obtain rfl:=List.mem_singleton.mp hb
   exact ⟨e1.free hD,_,hv1⟩
theorem cmp (j:Nat) {n:Str} {g f:Nat->D} (B:Bk X k) (hi:PI X (.Name n p) it (dI X.K τ xs)) (hx:∀ i (h:i < xs.length),xs[i]=g i) (hl:xs.length < 1000000)
   (he:∀ i,i < xs.length->∀ s H fp,PE (cpX X s H scope fp) elt (dE X.K true ((bE τ (bCp X.N scope)++[Sl.un]).set j (.d (g i))) (.d (f i))))
   (hc:bOk X.env.scope scope=true:=by kernel_rfl) (hu:(bE τ (bCp X.N scope)++[Sl.un])[j]?=some .un:=by rfl) (hN:(bNm scope++[("#" : Str)])[j]?=some n:=by rfl) (hv:∀ s H fp,Loc (cpX X s H scope fp).env.scope n:=by intro _ _ _; first | exact .inl rfl | exact .inr rfl)
   (hf:∀ s H fp,(cpX X s H scope fp).fn n=true\/(cpX X s H scope fp).env.scope.names.lookup n=some .local:=by intro _ _ _; first | exact .inr rfl | exact .inl rfl) (hs:∀ x,foldedSetIterable it X.env x=pure x:=by intro _; rfl) :
   Cmp X elt (.Name n p) it [] scope τ ((List.range xs.length).map f):=by
 have h:=pW (T:=λi=>(bE τ (bCp X.N scope)++[Sl.un]).set j (.d (g i))) (t:=λ_=>true) (f:=f) (elt:=elt) (ifs:=[]) hc hi (λi=>⟨List.length_set,λl x h=>?_⟩) (λi h s H fp=>?_) (λi h s H fp=>?_) (λi h _ s H fp=>he i h s H fp) hl hs
 · rwa [List.filter_eq_self.mpr λ_ _=>rfl] at h
 · rw [List.getElem?_set_ne (λz=>by rw [<- z,hu] at h; cases h)]
   exact h
 · rw [hx i h]
   exact wL j (gq hc).2 hN (hv s H fp) (hf s H fp)
 · exact λpins s' σ H' Q I ⟨A,H₀,B,S,q⟩=>mB pins s' σ H' Q I (q H' (ai.refl _))
end
section
variable {P:Program} {w:World} {K:PySem.W.Frag} {mg:Str->Option Value} {base:Heap}
noncomputable def qI (N:List Str) (ds:List D):List Sl:=ds.map .d++List.replicate (N.length - ds.length) .un
noncomputable abbrev Xc (P:Program) (w:World) (K:PySem.W.Frag) (mg:Str->Option Value) (base:Heap) (N:List Str) (qual:Str) (st:Stmt) (f:Addr) (cdv:Value) (A:Around) (outer:List Env) (s:Shared) (H:Hp) (E:XK):Cx:=(kK CX0 P w K mg base N qual (ah st) f cdv A outer s H E).nox
theorem fnD {x qual:Str} {st:Stmt} {f:Addr} {fd:FuncData} {N ps:List Str} {k:Nat} {Φ:List D->Sl->Prop} (F:Fun K x qual st f fd) (S:ax N ps (ah st)) (hb:∀ x ∈ aj,mg x=none) (len:∀ ds r,Φ ds r->ds.length=ps.length)
   (body:∀ ds r,Φ ds r->∀ cdv A outer s H E,Bk (Xc P w K mg base N qual st f cdv A outer s H E) k->PSs (Xc P w K mg base N qual st f cdv A outer s H E) (bK st) (dS K (qI N ds) { nx:=λ_=>r=.d .non,rt:=λr'=>r'=r })) :
   aN P w K mg base CX0 (k + 1) f fd ps (spD K Φ):=by
 refine F.ok S (λvs H Q E ⟨A,ds,r,_,d,h,_⟩=>d.length.trans (len ds r h)) λcdv A outer s H vs Q E hr ⟨A',ds,r,ha,d,h,q⟩=>⟨_,body ds r h cdv A outer s H E ⟨hr,rfl,hb,PassesOwn.never⟩,A',H,λ_=>[],⟨ai.refl _,?_,λi s hi=>?_,λ_ _ z=>(nomatch z),λ_ _ _ z=>(nomatch z),ha,λ_ _ z=>(nomatch z)⟩,λτ B σ H' h S=>?_,λ_ _ _ _ h=>h.elim,λ_ _ _ _ h=>h.elim,λv H' bs s h e hf z=>?_,λ_ _=>trivial⟩
 · unfold L2.start qI
   simp [d.length]
 · have hl:=d.length
   unfold qI at hi
   unfold L2.start
   by_cases hlt:i < ds.length
   · rw [List.getElem?_append_left (by simpa using hlt),List.getElem?_map,List.getElem?_eq_getElem hlt] at hi
     cases hi
     obtain ⟨v,e,dv⟩:=d.get (List.getElem?_eq_getElem hlt)
     refine ⟨rfl,v,?_,dv.mono (az (ai.refl _) λ_ z=>z.elim id λ⟨_,z⟩=>(nomatch z))⟩
     rw [List.getElem?_append_left (by simpa [hl] using hlt),List.getElem?_map,e]
     rfl
   · rw [List.getElem?_append_right (by simpa using hlt),List.getElem?_replicate] at hi
     split at hi
     · cases hi; rfl
     · cases hi
 · obtain rfl:=(h:r=_)
   exact q .non H' [] S.same fD (iV .non)
 · obtain rfl:=(h:s=r)
   exact q v H' bs e hf z
theorem wJ {K:PySem.W.Frag} {Φ:List D->Sl->Prop} (hΦ:∀ ns:List Int,ns.length<=63->Φ [.lst (ns.map .int)] (.d (.bl true))) (H:Hp) (a:Addr) (ns:List Int) (hl:ns.length<=63) (hS:SqL K H a (ns.map V.int)):spD K Φ [.ref a] H (λv _=>v=.bl true) λ_ _ _=>False:=by
 have hh:hd H (λ_=>False)=H:=by funext b; unfold hd; rw [if_neg id]
 refine ⟨λ_=>False,_,_,λ_ z=>z.elim,.cons (.lst (vs:=ns.map V.int) (by rw [hh]; exact hS) ?_) .nil,hΦ ns hl,λv H' bs _ _ h=>?_⟩
 · clear hl hS
   induction ns with
   | nil=>exact .nil
   | cons n ns ih=>exact .cons .int ih
 · obtain ⟨_,u,e,d⟩:=h
   cases e
   cases d
   rfl
end
end Hy
namespace K59
open PySem PySem.Spec PyProof.Rows L2 Hy
noncomputable def top (i:Nat):Stmt:=PySem.Challenge.pw_signsmooth_k59_made_by_corners.main.body.getD i (.Pass ⟨0,0,0,0⟩)
theorem iE:ax ["_law_cell_here","_law_bases","_law_row","_law_base","_law_k","_law_mixed"] ["_law_cell_here","_law_bases"] (ah (top 56)):=⟨rfl,rfl,rfl,by decide +kernel,rfl,by decide +kernel,by decide +kernel⟩
theorem lQ:ax ["_law_cell_here","_law_parts"] ["_law_cell_here"] (ah (top 61)):=⟨rfl,rfl,rfl,by decide +kernel,rfl,by decide +kernel,by decide +kernel⟩
theorem sQ:ax ["_law_script","_law_k"] ["_law_script","_law_k"] (ah (top 55)):=⟨rfl,rfl,rfl,by decide +kernel,rfl,by decide +kernel,by decide +kernel⟩
theorem gZ:ax ["_law_one","_law_other","_law_rest"] ["_law_one","_law_other"] (ah (top 57)):=⟨rfl,rfl,rfl,by decide +kernel,rfl,by decide +kernel,by decide +kernel⟩
theorem lY:ax ["_law_top","_law_bottom_here","_law_common"] ["_law_top","_law_bottom_here"] (ah (top 58)):=⟨rfl,rfl,rfl,by decide +kernel,rfl,by decide +kernel,by decide +kernel⟩
theorem js:ax ["_law_kind","_law_part","_law_top"] ["_law_kind","_law_part"] (ah (top 59)):=⟨rfl,rfl,rfl,by decide +kernel,rfl,by decide +kernel,by decide +kernel⟩
theorem kM:ax ["_law_cell_here","_law_many","_law_wide","_law_kind","_law_base","_law_parts"] ["_law_cell_here","_law_many","_law_wide","_law_kind"] (ah (top 60)):=⟨rfl,rfl,rfl,by decide +kernel,rfl,by decide +kernel,by decide +kernel⟩
theorem j8:ax ["_law_script","_law_many","_law_wide","_law_parts","_law_kind","_law_cell_here","_law_table_here","_law_row","_law_j"] ["_law_script"] (ah (top 72)):=⟨rfl,rfl,rfl,by decide +kernel,rfl,by decide +kernel,by decide +kernel⟩
theorem eO:ax ["thing"] ["thing"] (ah (top 34)):=⟨rfl,rfl,rfl,by decide +kernel,rfl,by decide +kernel,by decide +kernel⟩
theorem nU:ax ["thing"] ["thing"] (ah (top 23)):=⟨rfl,rfl,rfl,by decide +kernel,rfl,by decide +kernel,by decide +kernel⟩
theorem dr:ax ["one","other","greater","lesser","rest"] ["one","other"] (ah (top 25)):=⟨rfl,rfl,rfl,by decide +kernel,rfl,by decide +kernel,by decide +kernel⟩
theorem j6:ax ["thing"] ["thing"] (ah (top 24)):=⟨rfl,rfl,rfl,by decide +kernel,rfl,by decide +kernel,by decide +kernel⟩
theorem lz:ax ["thing"] ["thing"] (ah (top 35)):=⟨rfl,rfl,rfl,by decide +kernel,rfl,by decide +kernel,by decide +kernel⟩
theorem jj:ax ["thing"] ["thing"] (ah (top 36)):=⟨rfl,rfl,rfl,by decide +kernel,rfl,by decide +kernel,by decide +kernel⟩
theorem gC:ax ["thing"] ["thing"] (ah (top 37)):=⟨rfl,rfl,rfl,by decide +kernel,rfl,by decide +kernel,by decide +kernel⟩
theorem lq:ax ["one","other","shared","top","divisor"] ["one","other"] (ah (top 28)):=⟨rfl,rfl,rfl,by decide +kernel,rfl,by decide +kernel,by decide +kernel⟩
theorem pL:ax ["one","other"] ["one","other"] (ah (top 29)):=⟨rfl,rfl,rfl,by decide +kernel,rfl,by decide +kernel,by decide +kernel⟩
theorem gF:ax ["one","other","first","second"] ["one","other"] (ah (top 30)):=⟨rfl,rfl,rfl,by decide +kernel,rfl,by decide +kernel,by decide +kernel⟩
theorem cZ:ax ["top","bottom","divisor"] ["top","bottom"] (ah (top 26)):=⟨rfl,rfl,rfl,by decide +kernel,rfl,by decide +kernel,by decide +kernel⟩
theorem j3:ax ["one","other"] ["one","other"] (ah (top 31)):=⟨rfl,rfl,rfl,by decide +kernel,rfl,by decide +kernel,by decide +kernel⟩
theorem jV:ax ["table"] ["table"] (ah (top 40)):=⟨rfl,rfl,rfl,by decide +kernel,rfl,by decide +kernel,by decide +kernel⟩
theorem pj:ax ["top","bottom"] ["top","bottom"] (ah (top 27)):=⟨rfl,rfl,rfl,by decide +kernel,rfl,by decide +kernel,by decide +kernel⟩
theorem jk:ax ["row","scale","number"] ["row"] (ah (top 41)):=⟨rfl,rfl,rfl,by decide +kernel,rfl,by decide +kernel,by decide +kernel⟩
theorem fZ:ax ["grid","k","i"] ["grid","k"] (ah (top 46)):=⟨rfl,rfl,rfl,by decide +kernel,rfl,by decide +kernel,by decide +kernel⟩
theorem km:ax ["row","pivot_row","k","last","pivot","factor"] ["row","pivot_row","k","last"] (ah (top 47)):=⟨rfl,rfl,rfl,by decide +kernel,rfl,by decide +kernel,by decide +kernel⟩
theorem cH:ax ["rows","grid","many","sign","last","k","at","i"] ["rows"] (ah (top 45)):=⟨rfl,rfl,rfl,by decide +kernel,rfl,by decide +kernel,by decide +kernel⟩
theorem dj:ax ["numbers","found","number"] ["numbers"] (ah (top 44)):=⟨rfl,rfl,rfl,by decide +kernel,rfl,by decide +kernel,by decide +kernel⟩
theorem mh:ax ["row","scale"] ["row","scale"] (ah (top 42)):=⟨rfl,rfl,rfl,by decide +kernel,rfl,by decide +kernel,by decide +kernel⟩
theorem kZ:ax ["table","scales"] ["table","scales"] (ah (top 43)):=⟨rfl,rfl,rfl,by decide +kernel,rfl,by decide +kernel,by decide +kernel⟩
theorem cx:ax ["table","scales"] ["table"] (ah (top 39)):=⟨rfl,rfl,rfl,by decide +kernel,rfl,by decide +kernel,by decide +kernel⟩
theorem gh:ax ["table","i","j","size"] ["table","i","j"] (ah (top 51)):=⟨rfl,rfl,rfl,by decide +kernel,rfl,by decide +kernel,by decide +kernel⟩
theorem cK:ax ["table","made","i","j","lacking"] ["table","made","i","j"] (ah (top 53)):=⟨rfl,rfl,rfl,by decide +kernel,rfl,by decide +kernel,by decide +kernel⟩
theorem gW:ax ["table","made","i","j"] ["table"] (ah (top 52)):=⟨rfl,rfl,rfl,by decide +kernel,rfl,by decide +kernel,by decide +kernel⟩
theorem iK:ax ["table","i"] ["table","i"] (ah (top 50)):=⟨rfl,rfl,rfl,by decide +kernel,rfl,by decide +kernel,by decide +kernel⟩
theorem kN:ax ["table"] ["table"] (ah (top 49)):=⟨rfl,rfl,rfl,by decide +kernel,rfl,by decide +kernel,by decide +kernel⟩
theorem ly:ax ["_law_e","_law_named","_law_words","_law_some"] ["_law_e"] (ah (top 66)):=⟨rfl,rfl,rfl,by decide +kernel,rfl,by decide +kernel,by decide +kernel⟩
theorem ir:ax ["_law_table_here","_law_told","_law_e"] ["_law_table_here","_law_told"] (ah (top 73)):=⟨rfl,rfl,rfl,by decide +kernel,rfl,by decide +kernel,by decide +kernel⟩
theorem lR:ax ["_law_table_here","_law_rows_here","_law_all_bottoms","_law_row","_law_factor","_law_number_here"] ["_law_table_here"] (ah (top 64)):=⟨rfl,rfl,rfl,by decide +kernel,rfl,by decide +kernel,by decide +kernel⟩
theorem iL:ax ["_law_table_here","_law_found","_law_row"] ["_law_table_here"] (ah (top 69)):=⟨rfl,rfl,rfl,by decide +kernel,rfl,by decide +kernel,by decide +kernel⟩
theorem pH:ax ["_law_thing"] ["_law_thing"] (ah (top 62)):=⟨rfl,rfl,rfl,by decide +kernel,rfl,by decide +kernel,by decide +kernel⟩
theorem jU:ax ["_law_found","_law_top","_law_bottom_here"] ["_law_found","_law_top","_law_bottom_here"] (ah (top 63)):=⟨rfl,rfl,rfl,by decide +kernel,rfl,by decide +kernel,by decide +kernel⟩
theorem jo:ax ["_law_found","_law_table_here","_law_line","_law_one"] ["_law_found","_law_table_here"] (ah (top 70)):=⟨rfl,rfl,rfl,by decide +kernel,rfl,by decide +kernel,by decide +kernel⟩
theorem oX:ax ["_law_rows_here","_law_sums","_law_row","_law_longer","_law_mask","_law_behind_it","_law_j","_law_key","_law_sign"] ["_law_rows_here"] (ah (top 65)):=⟨rfl,rfl,rfl,by decide +kernel,rfl,by decide +kernel,by decide +kernel⟩
theorem ji:ax ["_law_rows_here","_law_i","_law_j","_law_size_here"] ["_law_rows_here","_law_i","_law_j"] (ah (top 67)):=⟨rfl,rfl,rfl,by decide +kernel,rfl,by decide +kernel,by decide +kernel⟩
theorem jq:ax ["_law_bottoms_here","_law_i","_law_j","_law_total","_law_bottom_here"] ["_law_bottoms_here","_law_i","_law_j"] (ah (top 68)):=⟨rfl,rfl,rfl,by decide +kernel,rfl,by decide +kernel,by decide +kernel⟩
theorem di:ax ["_law_found","_law_table_here","_law_rows_here","_law_bottoms_here","_law_i","_law_j","_law_top","_law_over"] ["_law_found","_law_table_here"] (ah (top 71)):=⟨rfl,rfl,rfl,by decide +kernel,rfl,by decide +kernel,by decide +kernel⟩
theorem vU:ax ["_law_script","_law_table_here","_law_handed","_law_some","_law_odd","_law_found","_law_kept"] ["_law_script"] (ah (top 74)):=⟨rfl,rfl,rfl,by decide +kernel,rfl,by decide +kernel,by decide +kernel⟩
end K59
namespace L2
open PySem PySem.Spec PyProof.Rows
section
variable {κ:Type} [DecidableEq κ]
noncomputable def eX (kvs:List (κ × V)) (k:κ):Option V:=(kvs.find? λkv=>decide (kv.1=k)).map (·.2)
noncomputable def putK (kvs:List (κ × V)) (k:κ) (v:V):List (κ × V):=
 if (kvs.any λkv=>decide (kv.1=k))=true then kvs.map (λkv=>if kv.1=k then (kv.1,v) else kv) else kvs++[(k,v)]
theorem bN {p:κ × V} {r:List (κ × V)} {k:κ} (e:p.1=k):eX (p :: r) k=some p.2:=by simp [eX,List.find?_cons,e]
theorem bL {p:κ × V} {r:List (κ × V)} {k:κ} (e:¬ p.1=k):eX (p :: r) k=eX r k:=by simp [eX,List.find?_cons,e]
theorem kq (k:κ):∀ kvs:List (κ × V),(kvs.any λkv=>decide (kv.1=k))=(eX kvs k).isSome
 | []=>rfl
 | p :: r=>by
   rw [List.any_cons]
   by_cases e:p.1=k
   · simp only [bN e,decide_eq_true e,Bool.true_or,Option.isSome_some]
   · rw [bL e,decide_eq_false e,Bool.false_or]; exact kq k r
theorem o9 (k j:κ) (y:V):∀ kvs:List (κ × V),eX (kvs.map λkv=>if kv.1=k then (kv.1,y) else kv) j=(eX kvs j).map λx=>if j=k then y else x
 | []=>rfl
 | p :: r=>by
   have ih:=o9 k j y r
   rw [List.map_cons]
   by_cases h:p.1=k
   · rw [if_pos h]
     by_cases e:p.1=j
     · rw [bN (p:=(p.1,y)) e,bN e,Option.map_some,if_pos (e.symm.trans h)]
     · rw [bL (p:=(p.1,y)) e,bL e,ih]
   · rw [if_neg h]
     by_cases e:p.1=j
     · rw [bN (p:=p) e,bN e,Option.map_some,if_neg (λz=>h (e.trans z))]
     · rw [bL (p:=p) e,bL e,ih]
theorem lV (k j:κ) (y:V):∀ kvs:List (κ × V),eX kvs k=none->eX (kvs++[(k,y)]) j=if j=k then some y else eX kvs j
 | [],_=>by
   by_cases e:k=j
   · rw [if_pos e.symm]; exact bN (p:=(k,y)) e
   · rw [if_neg (λz=>e z.symm)]; exact bL (p:=(k,y)) e
 | p :: r,hn=>by
   rw [List.cons_append]
   have hk:¬ p.1=k:=λz=>by rw [bN z] at hn; cases hn
   rw [bL hk] at hn
   have ih:=lV k j y r hn
   by_cases e:p.1=j
   · rw [bN e,bN e,if_neg (λz=>hk (e.trans z))]
   · rw [bL e,bL e,ih]
theorem t6 (kvs:List (κ × V)) (k j:κ) (y:V):eX (putK kvs k y) j=if j=k then some y else eX kvs j:=by
 unfold putK
 by_cases a:(kvs.any λkv=>decide (kv.1=k))=true
 · rw [if_pos a,o9]
   rw [kq] at a
   by_cases e:j=k
   · obtain ⟨x,hx⟩:=Option.isSome_iff_exists.mp a
     rw [if_pos e,e,hx,Option.map_some,if_pos rfl]
   · rw [if_neg e]
     cases eX kvs j with
     | none=>rfl
     | some x=>rw [Option.map_some,if_neg e]
 · rw [if_neg a]
   refine lV k j y kvs ?_
   rw [kq] at a
   cases q:eX kvs k with
   | none=>rfl
   | some x=>rw [q] at a; exact (a rfl).elim
theorem jm (kvs:List (κ × V)) (k:κ) (v:V):(putK kvs k v).length<=kvs.length + 1:=by
 unfold putK
 split
 · rw [List.length_map]; omega
 · rw [List.length_append,List.length_cons,List.length_nil]; omega
theorem oQ.getD {o:Option V} {u:Option Value} {d:V} {d':Value} (r:oQ o u) (rd:RelV d d'):RelV (o.getD d) (u.getD d'):=by
 cases o with
 | none=>cases u with
   | none=>exact rd
   | some _=>exact (show False from r).elim
 | some _=>cases u with
   | none=>exact (show False from r).elim
   | some _=>exact r
theorem KV.val {kvs:List (κ × V)} {vs:List (κ × Value)} (r:KV kvs vs) (k:κ):oQ (eX kvs k) (valueAt vs k):=by
 unfold KV at r
 induction r with
 | nil=>exact True.intro
 | @cons p q ps qs h t ih=>
   obtain ⟨h1,h2⟩:=h
   by_cases e:p.1=k
   · have e':q.1=k:=h1.symm.trans e
     have b:valueAt (q :: qs) k=some q.2:=by simp [valueAt,List.find?_cons,e']
     rw [bN e,b]; exact h2
   · have e':¬ q.1=k:=λz=>e (h1.trans z)
     have b:valueAt (q :: qs) k=valueAt qs k:=by simp [valueAt,List.find?_cons,e']
     rw [bL e,b]; exact ih
theorem KV.any {kvs:List (κ × V)} {vs:List (κ × Value)} (r:KV kvs vs) (k:κ):(kvs.any λkv=>decide (kv.1=k))=vs.any λkv=>decide (kv.1=k):=by
 unfold KV at r
 induction r with
 | nil=>rfl
 | cons h t ih=>rw [List.any_cons,List.any_cons,ih,h.1]
theorem KV.CP {kvs:List (κ × V)} {vs:List (κ × Value)} (r:KV kvs vs) (k:κ) {y:V} {u:Value} (ry:RelV y u) :
   KV (kvs.map λkv=>if kv.1=k then (kv.1,y) else kv) (vs.map λkv=>if kv.1=k then (kv.1,u) else kv):=by
 unfold KV at r ⊢
 induction r with
 | nil=>exact .nil
 | @cons p q ps qs h t ih=>
   rw [List.map_cons,List.map_cons]
   refine .cons ?_ ih
   obtain ⟨h1,h2⟩:=h
   by_cases e:p.1=k
   · rw [if_pos e,if_pos (h1.symm.trans e)]; exact ⟨h1,ry⟩
   · rw [if_neg e,if_neg (λz=>e (h1.trans z))]; exact ⟨h1,h2⟩
theorem KV.put {kvs:List (κ × V)} {vs:List (κ × Value)} (r:KV kvs vs) (k:κ) {y:V} {u:Value} (ry:RelV y u):KV (putK kvs k y) (stored vs k u):=by
 unfold putK stored
 rw [r.any k]
 by_cases e:(vs.any λkv=>decide (kv.1=k))=true
 · rw [if_pos e,if_pos e]; exact r.CP k ry
 · rw [if_neg e,if_neg e]; exact Paired.snoc r ⟨rfl,ry⟩
theorem KV.keys {kvs:List (κ × V)} {vs:List (κ × Value)} (r:KV kvs vs):kvs.map (·.1)=vs.map (·.1):=by
 unfold KV at r
 induction r with
 | nil=>rfl
 | cons h t ih=>rw [List.map_cons,List.map_cons,ih,h.1]
theorem KV.length {kvs:List (κ × V)} {vs:List (κ × Value)} (r:KV kvs vs):kvs.length=vs.length:=Paired.length r
end
theorem rA {P:Program} {w:World} {k:Key} {u:Value} (r:RelV (kV k) u):(bJ P w).is k u=true:=by
 cases k with
 | inl i=>obtain ⟨t,e⟩:=(show ∃ t,u=Value.int i t from r); subst e; exact oY P w i t
 | inr x=>obtain ⟨t,e⟩:=(show ∃ t,u=Value.str x t from r); subst e; exact oM P w x t
section
variable {P:Program} {w:World} {H:Hp} {h:Heap} {a:Addr}
theorem Bu {u:HO} (ok:HOk P w H h) (e:Rd H a u):bR P w H h a u:=e.ok ok
theorem nX {kvs:List (Key × V)} (ok:HOk P w H h) (e:Rd H a (.dK kvs)):kvs.length<=sizeLine/\(a == sysModules)=false/\∃ vs,KV kvs vs/\h.DictOf (bJ P w) a vs:=
 show bR P w H h a (.dK kvs) from Bu ok e
theorem ua {kvs:List (Key × V)} (ok:HOk P w H h) (e:H a=some (.dK kvs)):kvs.length<=sizeLine/\(a == sysModules)=false/\∃ vs,KV kvs vs/\h.DictOf (bJ P w) a vs:=nX ok (.inl e)
end
noncomputable def vz (H:Hp) (a:Addr) (y:V) (r:Option V):Prop:=∃ kvs k,Rd H a (.dK kvs)/\y=kV k/\r=eX kvs k
noncomputable def Cb (H:Hp) (a:Addr) (y v:V) (H':Hp):Prop:=∃ kvs k,H a=some (.dK kvs)/\y=kV k/\kvs.length < sizeLine/\H'=upd H a (.dK (putK kvs k v))
section
variable {X:Cx} {pins:List (Addr × Obj)} {σ:St} {H:Hp} {s:Shared} {a:Addr} {y v:V} {u r:Value} {o:Option V} {A:Around} {E:Value->Shared->Prop}
theorem Inv.big (I:Inv X pins σ H s):sysModules < s.heap.objs.size:=by
 have h:mainGlobals < s.heap.objs.size:=(I.mod.glob.keeps I.bk).lt
 exact Nat.lt_trans (by decide) h
theorem sC {Q:Value->Shared->Prop} (hu:A.units + 1 < cLine) (I:Inv X pins σ H s) (g:vz H a y (some v)) (ry:RelV y u) (h:∀ w' s',Inv X pins σ H s'->RelV v w'->Q w' s') :
   wpAny (model X.prog X.w) A (getItem (.ref a) u) Q E s:=by
 obtain ⟨kvs,k,e,ey,l⟩:=g
 subst ey
 obtain ⟨z,hd,vs,rel,dd⟩:=nX I.hok e
 obtain ⟨w',hw,rw'⟩:=oQ.some_of (v:=v) (o:=valueAt vs k) (by rw [l]; exact rel.val k)
 exact wpAny_getItem_of (rA ry) dd.mapOf hw (h w' _ (I.tok _) rw')
theorem mG {h':Heap} {t':Nat} {ob:HO} (I:Inv X pins σ H s) (mu:Mut (H a)) (hs:Heap.SameBut a s.heap h') (he:∃ q,h'.get? a=some q) (new:bR X.prog X.w (upd H a ob) h' a ob) :
   Inv X pins σ (upd H a ob) { s with heap:=h',toks:=t' }:=
 I.write (x:=a) (e:=a) mu (.inl rfl) (λb q hb z=>(hs.2 b hb).trans z) he new
theorem qJ {P:Program} {w:World} {H':Hp} {h':Heap} {kvs:List (Key × V)} {vs:List (Key × Value)} (z:kvs.length<=sizeLine) (hd:(a == sysModules)=false) (rel:KV kvs vs) (dd:h'.DictOf (bJ P w) a vs) :
   bR P w H' h' a (.dK kvs):=⟨z,hd,vs,rel,dd⟩
theorem sU {H':Hp} {Q:Unit->Shared->Prop} (hu:A.units + 1 < cLine) (I:Inv X pins σ H s) (g:Cb H a y v H') (ry:RelV y u) (rv:RelV v r) (h:∀ s',Inv X pins σ H' s'->Q () s') :
   wpAny (model X.prog X.w) A (setItem (.ref a) u r) Q E s:=by
 obtain ⟨kvs,k,e,ey,l,eH⟩:=g
 subst ey eH
 obtain ⟨z,hd,vs,rel,dd⟩:=ua I.hok e
 have hz:vs.length<=sizeLine:=by rw [<- rel.length]; exact z
 have hl:(putK kvs k v).length<=sizeLine:=by have:=jm kvs k v; omega
 refine wpAny_setItem_pairs (hsz:=hz) (rA ry) dd λh' dd' hs=>h _ ?_
 have he:∃ q,h'.get? a=some q:=let ⟨q,_,_,hq,_⟩:=dd'; ⟨q,hq⟩
 exact mG I (by rw [e]; exact True.intro) hs he (qJ hl hd (rel.put k rv) dd')
end
section
variable {X:Cx} {pins:List (Addr × Obj)} {σ:St} {H:Hp} {s:Shared} {a:Addr} {kvs:List (Key × V)} {k:Key} {u:Value} {A:Around} {E:Value->Shared->Prop}
end
noncomputable def vS (i:Expr):Prop:=∀ ov iv,subscripted i false ov iv=operate [ov,iv] (getItem ov iv)
theorem yi {prog:Program} {w:World} {A:Around} {E:Value->Shared->Prop} {s:Shared} {env:Env} {value slice:Expr} {pos:Pos} {T id:String} {Q:Value->Shared->Prop}
   (hl:typeLookup (.type T) "__getitem__" = pure (some (.builtin id))) (hs:vS slice)
   (h:wpAny (model prog w) A (eval value env) (λo s₁=>wpAny (model prog w) A (eval slice env) (λi s₂=>s₂.TypeIs o T/\wpAny (model prog w) A (getItem o i) Q E s₂) E s₁) E s) :
   wpAny (model prog w) A (eval (.Subscript value slice pos) env) Q E s:=by
 refine Subscript_ (wpAny_mono h (λo s₁ h₁=>wpAny_mono h₁ (λi s₂ h₂=>?_) λ_ _ x=>x) λ_ _ x=>x)
 obtain ⟨hT,h₂⟩:=h₂
 unfold subscriptTail
 refine wpAny_bind ?_
 rw [getitemInPython_of_ne hT.not_modules]
 refine wpAny_bind (wpAny_specialOf hT hl ?_)
 have fin:wpAny (model prog w) A (subscripted slice false o i) (λr s₃=>wpAny (model prog w) A (letTemporaryGo value o r >>= λ_=>pure r) Q E s₃) E s₂:=by
   rw [hs o i]
   exact wpAny_operating (wpAny_mono h₂ (λr s₃ h₃=>wpAny_bind (wpAny_letTemporaryGo (wpAny_pure h₃))) λ_ _ x=>x)
 first
   | exact wpAny_pure (wpAny_bind fin)
   | exact wpAny_bind (wpAny_pure (wpAny_bind fin))
   | exact wpAny_bind fin
theorem om {X:Cx} {pins:List (Addr × Obj)} {σ:St} {H:Hp} {s:Shared} {a:Addr} {y:V} {o:Option V} (I:Inv X pins σ H s) (g:vz H a y o):s.TypeIs (.ref a) "dict":=by
 obtain ⟨kvs,k,e,_,_⟩:=g
 obtain ⟨_,_,vs,_,dd⟩:=nX I.hok e
 exact dd.typeIs
noncomputable def Cj (td ty:TE):TE:=λσ H Q=>td σ H λx H1=>ty σ H1 λy H2=>∃ a v,x=.ref a/\vz H2 a y (some v)/\Q v H2
noncomputable def CD (td ty tv:TE):TS:=λD σ H=>tv σ H λv H1=>td σ H1 λx H2=>ty σ H2 λy H3=>∃ a H4,x=.ref a/\Cb H3 a y v H4/\D.nx σ H4
section
variable {X:Cx} {o i e value:Expr} {pos pos' tpos:Pos} {td ty tv:TE}
theorem xD (hu:X.A.units + 1 < cLine) (ho:PE X o td) (hi:PE X i ty) (hs:vS i):PE X (.Subscript o i pos) (Cj td ty):=by
 intro pins s σ H Q I h
 refine yi PySem.F.slot_dict_getitem.lookup hs (thn (ho pins s σ H _ I h) λu s1 ⟨x,H1,I1,rx,q1⟩=>thn (hi pins s1 σ H1 _ I1 q1) λiv s2 ⟨y,H2,I2,ry,a,v,ex,g,q2⟩=>?_)
 subst ex
 obtain rfl:u=Value.ref a:=rx
 exact ⟨om I2 g,sC hu I2 g ry λw' s3 I3 rw'=>⟨v,H2,I3,rw',q2⟩⟩
theorem wK (hu:X.A.units + 1 < cLine) (ho:PE X o td) (hi:PE X i ty) (hv:PE X value tv) (hs:swapsWith value (some (.Subscript o i pos')) pos.line X.env=pure false) :
   PS X (.Assign [.Subscript o i pos'] value pos) (CD td ty tv):=by
 intro pins s σ H D I h
 refine wpAny_Assign_Subscript (thn (hv pins s σ H _ I h) λr s1 ⟨v,H1,I1,rv,q1⟩=>thn (ho pins s1 σ H1 _ I1 q1) λu s2 ⟨x,H2,I2,rx,q2⟩=>thn (hi pins s2 σ H2 _ I2 q2) λiv s3 ⟨y,H3,I3,ry,a,H4,ex,g,q3⟩=>?_) hs
 subst ex
 obtain rfl:u=Value.ref a:=rx
 exact sU hu I3 g ry rv λs4 I4=>⟨σ,H4,I4,q3⟩
end
theorem nQ {P:Program} {w:World} {H:Hp} (h:Heap) (hb:sysModules < h.objs.size):bR P w H (h.push { cls:=.type "dict",data:=.dict #[] }) h.objs.size (.dK []):=
 ⟨Nat.zero_le _,beq_eq_false_iff_ne.mpr (Ne.symm (Nat.ne_of_lt hb)),[],.nil,Heap.DictOf.new h⟩
noncomputable def ze:TE:=λ_ H Q=>∀ p,H p=none->Q (.ref p) (upd H p (.dK []))
section
variable {X:Cx} {pos:Pos}
theorem t8:PE X (.Dict [] [] pos) ze:=λpins s σ H Q I h=>
 wpAny_Dict_empty ⟨.ref s.heap.objs.size,_,I.laid (a:=s.heap.objs.size) (o:=.dK []) (t':=s.toks) (λ_ _ q=>Heap.get?_push_of_some _ q) (Nat.le_refl _) (nQ s.heap I.big),rfl,h _ (I.hok.fresh (Nat.le_refl _))⟩
end
noncomputable def qB:List (TE × TE)->St->Hp->(List (V × V)->Hp->Prop)->Prop
 | [],_,H,Q=>Q [] H
 | (tk,tv) :: r,σ,H,Q=>tk σ H λx H1=>tv σ H1 λy H2=>qB r σ H2 λps H3=>Q ((x,y) :: ps) H3
noncomputable abbrev VV:List (V × V)->List (Value × Value)->Prop:=Paired λp q=>RelV p.1 q.1/\RelV p.2 q.2
noncomputable def PPs (X:Cx) (pos:Pos) (keys:List (Option Expr)) (values:List Expr) (trs:List (TE × TE)):Prop:=
 ∀ (pins:List (Addr × Obj)) (s:Shared) (σ:St) (H:Hp) (Q:List (V × V)->Hp->Prop),Inv X pins σ H s->qB trs σ H Q ->
   wpAny (model X.prog X.w) X.A (evalPairs (pairTrees keys values X.env pos)) (λvs s'=>∃ ps H',Inv X pins σ H' s'/\VV ps vs/\Q ps H') X.xe s
theorem xx {X:Cx} {pos:Pos}:PPs X pos [] [] []:=λpins s σ H Q I h=>pairTrees_nil_walk ⟨[],H,I,.nil,h⟩
theorem vG {X:Cx} {pos:Pos} {k v:Expr} {ks:List (Option Expr)} {vs:List Expr} {tk tv:TE} {trs:List (TE × TE)} (hk:PE X k tk) (hv:PE X v tv) (hr:PPs X pos ks vs trs) :
   PPs X pos (some k :: ks) (v :: vs) ((tk,tv) :: trs):=λpins s σ H Q I h=>
 pairTrees_cons_walk (thn (hk pins s σ H _ I h) λu s1 ⟨x,H1,I1,rx,q1⟩=>thn (hv pins s1 σ H1 _ I1 q1) λw2 s2 ⟨y,H2,I2,ry,q2⟩=>
   thn (hr pins s2 σ H2 _ I2 q2) λws s3 ⟨ps,H3,I3,rel,q3⟩=>⟨(x,y) :: ps,H3,I3,.cons ⟨rx,ry⟩ rel,q3⟩)
noncomputable def iT (kvs more:List (Key × V)):List (Key × V):=more.foldl (λacc kv=>putK acc kv.1 kv.2) kvs
theorem KV.merge:∀ {more:List (Key × V)} {rs:List (Key × Value)} {kvs:List (Key × V)} {vs:List (Key × Value)},KV more rs->KV kvs vs->KV (iT kvs more) (merged vs rs):=by
 intro more rs kvs vs r
 unfold KV at r
 induction r generalizing kvs vs with
 | nil=>intro q; exact q
 | @cons p q ps qs h t ih=>
   intro r0
   have e:KV (putK kvs p.1 p.2) (stored vs q.1 q.2):=by
     have:=r0.put p.1 h.2
     rw [<- h.1]; exact this
   exact ih e
theorem gD:∀ (more kvs:List (Key × V)),(iT kvs more).length<=kvs.length + more.length
 | [],kvs=>by show kvs.length<=kvs.length + 0; omega
 | p :: r,kvs=>by
   have h1:=gD r (putK kvs p.1 p.2)
   have h2:=jm kvs p.1 p.2
   show (iT (putK kvs p.1 p.2) r).length<=_
   rw [List.length_cons]; omega
theorem jX {P:Program} {w:World}:∀ {kvs:List (Key × V)} {ws:List (Value × Value)},VV (kvs.map λkv=>(kV kv.1,kv.2)) ws->∃ rs,Carries (bJ P w) ws rs/\KV kvs rs
 | [],_,r=>by rw [List.map_nil] at r; cases r; exact ⟨[],True.intro,.nil⟩
 | p :: kvs,_,r=>by
   rw [List.map_cons] at r
   cases r with
   | @cons a b as bs h t=>
     obtain ⟨rs,c,q⟩:=jX (P:=P) (w:=w) t
     obtain ⟨b1,b2⟩:=b
     exact ⟨(p.1,b2) :: rs,⟨rA h.1,rfl,c⟩,.cons ⟨rfl,h.2⟩ q⟩
noncomputable def BR (trs:List (TE × TE)):TE:=λσ H Q=>∀ p,H p=none->qB trs σ (upd H p (.dK [])) λps H2=>H2 p=some (.dK [])/\∃ kvs:List (Key × V),ps=kvs.map (λkv=>(kV kv.1,kv.2))/\kvs.length<=15/\Q (.ref p) (upd H2 p (.dK (iT [] kvs)))
theorem xu {X:Cx} {pos:Pos} {keys:List (Option Expr)} {values:List Expr} {trs:List (TE × TE)} (h:PPs X pos keys values trs) (hall:keys.all (·.isSome)=true) (hl:keys.length=values.length) (h0:keys ≠ [])
   (h15:keys.length<=15):PE X (.Dict keys values pos) (BR trs):=by
 intro pins s σ H Q I q
 have hn:=I.hok.fresh (Nat.le_refl s.heap.objs.size)
 have I1:=I.laid (a:=s.heap.objs.size) (o:=.dK []) (h':=s.heap.push { cls:=.type "dict",data:=.dict #[] }) (t':=s.toks) (λ_ _ q=>Heap.get?_push_of_some _ q) (Nat.le_refl _) (nQ s.heap I.big)
 refine wpAny_Dict_walk (knd:=bJ X.prog X.w) hall hl h0 h15 (thn (h pins _ σ _ _ I1 (q _ hn)) λws s2 ⟨ps,H2,I2,rel,e,kvs,ep,lk,q2⟩=>?_)
 subst ep
 obtain ⟨rs,c,rk⟩:=jX (P:=X.prog) (w:=X.w) rel
 obtain ⟨z,hd,vs0,r0,dd⟩:=ua I2.hok e
 cases r0
 refine ⟨rs,c,dd,λh' dd' hs=>⟨.ref s.heap.objs.size,_,?_,rfl,q2⟩⟩
 have hz:(iT [] kvs).length<=sizeLine:=by
   have h1:=gD kvs []
   rw [List.length_nil] at h1
   rw [sizeLine_eq]; omega
 have he:∃ q,h'.get? s.heap.objs.size=some q:=let ⟨q,_,_,hq,_⟩:=dd'; ⟨q,hq⟩
 exact mG I2 (by rw [e]; exact True.intro) hs he (qJ hz hd (rk.merge .nil) dd')
structure M2 (X:Cx) (o:Expr) (m:Str) (apos:Pos) (e f:Expr) (cpos:Pos):Prop where
 base:attributeBase o m X.env (eval o X.env)=eval o X.env
 few:((backTo cpos (starEach [e,f] X.env)).all (λx=>!x.1) && (backToKw cpos (keywordEach [] X.env)).all (λx=>x.1.isSome)
   && decide (([e,f]:List Expr).length + ([]:List Keyword).length + (if ([]:List Keyword).isEmpty then 0 else 1) < 30))=true
 line:(apos.endLine == cpos.line)=true
 trees:backTo cpos (starEach [e,f] X.env)=[(false,eval e X.env),(false,eval f X.env)]
noncomputable def IsD (H:Hp) (a:Addr):Prop:=∃ kvs,Rd H a (.dK kvs)
theorem AH {X:Cx} {pins:List (Addr × Obj)} {σ:St} {H:Hp} {s:Shared} {a:Addr} (I:Inv X pins σ H s) (d:IsD H a) :
   s.TypeIs (.ref a) "dict" /\ (∀ b,Value.ref a=.ref b->∃ ob,s.heap.get? b=some ob/\ob.dict=none)/\(a == sysModules)=false:=by
 obtain ⟨kvs,e⟩:=d
 obtain ⟨_,hd,vs,_,dd⟩:=nX I.hok e
 refine ⟨dd.typeIs,λb q=>?_,hd⟩
 cases q
 obtain ⟨ob,_,_,h1,h2,_⟩:=dd
 exact ⟨ob,h1,h2.2.1⟩
section
variable {X:Cx} {pins:List (Addr × Obj)} {σ:St} {H:Hp} {s:Shared} {a:Addr} {y d:V} {u r:Value} {o:Option V} {A:Around} {E:Value->Shared->Prop}
theorem zx {Q:Value->Shared->Prop} (hu:A.units + 1 < cLine) (I:Inv X pins σ H s) (g:vz H a y o) (ry:RelV y u) (rd:RelV d r) (h:∀ w' s',Inv X pins σ H s'->RelV (o.getD d) w'->Q w' s') :
   wpAny (model X.prog X.w) A (call (.builtin "dict.get") [.ref a,u,r]) Q E s:=by
 obtain ⟨kvs,k,e,ey,l⟩:=g
 subst ey
 obtain ⟨z,hd,vs,rel,dd⟩:=nX I.hok e
 refine call_meetsIn PySem.F.slot_dict_get dd.typeIs PySem.F.entry_dict_get (PySem.F.args_dict_get_3 _ _ _) (meets_dict_get_default (bJ X.prog X.w) a (rA ry) hd r) ⟨_,dd.mapOf,h _ _ (I.tok _) ?_⟩
 rw [l]
 exact (rel.val k).getD rd
end
noncomputable def Ai (td ty tx:TE):TE:=λσ H Q=>td σ H λx H1=>∃ a,x=.ref a/\IsD H1 a/\ty σ H1 λy H2=>tx σ H2 λz H3=>∃ o,vz H3 a y o/\Q (o.getD z) H3
section
variable {X:Cx} {o e f:Expr} {apos cpos:Pos} {td ty tx:TE}
theorem t7 (hu:X.A.units + 1 < cLine) (ho:PE X o td) (he:PE X e ty) (hf:PE X f tx) (m:M2 X o "get" apos e f cpos):PE X (.Call (.Attribute o "get" apos) [e,f] [] cpos) (Ai td ty tx):=by
 intro pins s σ H Q I h
 refine wpAny_Call_method m.base m.few m.line PySem.F.plainAttrs_dict PySem.F.slot_dict_get PySem.F.type_dict_get (thn (ho pins s σ H _ I h) λu s1 ⟨x,H1,I1,rx,a,ex,d,q1⟩=>?_)
 subst ex
 obtain rfl:u=Value.ref a:=rx
 obtain ⟨t1,t2,_⟩:=AH I1 d
 refine ⟨t1,t2,?_⟩
 rw [m.trees]
 refine Calls.callWith_builtin rfl (Calls.evalArgs_plain (Calls.spliced_cons (thn (he pins s1 σ H1 _ I1 q1) λiv s2 ⟨y,H2,I2,ry,q2⟩=>
   Calls.spliced_cons (thn (hf pins s2 σ H2 _ I2 q2) λfv s3 ⟨z,H3,I3,rz,ov,g,q3⟩=>Calls.spliced_nil ?_))))
 exact zx hu I3 g ry rz λw' s4 I4 rw'=>⟨_,H3,I4,rw',q3⟩
end
end L2
namespace Ev
open PySem PySem.Spec PyProof.Rows L2
open PySem.Builtin.Range (rangeFitsLong rangeSize)
noncomputable def iM (n:Int):Obj:={ cls:=.type "range_iterator",data:=.fields #[rawInt (0 + (rangeSize 0 n 1 - 1) * 1),rawInt (rangeSize 0 n 1),rawInt (-1)] }
theorem fits_of {i:Int} (h1:-(2 ^ 62)<=i) (h2:i<=2 ^ 62):rangeFitsLong i=true:=by
 unfold rangeFitsLong
 rw [Bool.and_eq_true,decide_eq_true_iff,decide_eq_true_iff]
 omega
theorem vQ {n:Int} (h:0<=n):rangeSize 0 n 1=n:=by
 rw [rangeSize_one]
 split <;> omega
theorem AA {n:Int} (h0:0<=n) (h1:n < 2 ^ 62):(rangeFitsLong 0 && rangeFitsLong n && rangeFitsLong 1 && rangeFitsLong (-1) && rangeFitsLong (0 - 1) && rangeFitsLong (rangeSize 0 n 1))=true:=by
 rw [vQ h0,fits_of (i:=n) (by omega) (by omega)]
 decide
theorem tu (r:Addr) (n:Int) (t u v:Tok) (hs:(rangeFitsLong 0 && rangeFitsLong n && rangeFitsLong 1 && rangeFitsLong (-1) && rangeFitsLong (0 - 1) && rangeFitsLong (rangeSize 0 n 1))=true) :
   Meets (Builtin.«range.__reversed__» ⟨[.ref r],[]⟩) (λ_ R s=>IsRange s.heap r 0 n 1 t u v/\R (.ok (.ret (Value.ref s.heap.objs.size))) { s with heap:=s.heap.push (iM n),toks:=s.toks }):=
 .of_wp λprog w A R s h=>by
   obtain ⟨hp,g,d,tk,os⟩:=s
   obtain ⟨hl,h⟩:=h
   have hs':(!(rangeFitsLong 0 && rangeFitsLong n && rangeFitsLong 1 && rangeFitsLong (-1) && rangeFitsLong (0 - 1) && rangeFitsLong (rangeSize 0 n 1)))=false:=by rw [hs]; rfl
   wp_walk
   rw [if_neg (by rw [hs]; decide),if_pos hs]
   exact wpAny_bind (wpAny_newObj_type (wpAny_pure ⟨_,rfl,h⟩))
section
variable {prog:Program} {w:World} {A:Around} {E:Value->Shared->Prop} {s:Shared}
theorem ky {r:Addr} {n:Int} {t u v:Tok} {Q:Value->Shared->Prop} (hr:IsRange s.heap r 0 n 1 t u v) (h0:0<=n) (h1:n < 2 ^ 62)
   (h:Q (.ref s.heap.objs.size) { s with heap:=s.heap.push (iM n) }):wpAny (model prog w) A (call (.builtin "range.__reversed__") [.ref r]) Q E s:=
 call_meets F.slot_range_reversed ⟨_,hr,rfl⟩ F.entry_range_reversed (F.args_range_reversed_1 _) (tu r n t u v (AA h0 h1)) ⟨hr,h⟩
theorem mU {r:Addr} {n:Int} {t u v:Tok} {Q₁:Value->Shared->Prop} (hr:IsRange s.heap r 0 n 1 t u v) (h0:0<=n) (h1:n < 2 ^ 62)
   (h:Q₁ (.ref s.heap.objs.size) { s with heap:=s.heap.push (iM n) }) :
   codeAny (model prog w) A (.call (.builtin "reversed.__new__") ⟨[.type "reversed",.ref r],[]⟩) (wants Q₁ E) s:=by
 have hT:s.TypeIs (.ref r) "range":=⟨_,hr,rfl⟩
 refine codeAny_of_tree ?_
 refine wpAny_bind (wpAny_of_eq (F.newCall_reversed_1 _) (wpAny_pure ⟨plainId_quiet F.plain_reversed_new _,codeAny_builtin F.entry_reversed_new ?_⟩))
 rw [Around.under_plainId F.plain_reversed_new _]
 unfold Builtin.«reversed.__new__»
 refine wpAny_bind (wpAny_of_eq (newClass_reversed _) ?_)
 try dsimp only
 refine wpAny_bind (wpAny_of_eq (a:=()) (by first | rfl | kernel_rfl) ?_)
 refine wpAny_bind (wpAny_of_eq (a:=()) (by first | rfl | kernel_rfl) ?_)
 try dsimp only
 refine wpAny_bind (wpAny_specialOf hT F.slot_range_reversed.lookup ?_)
 try dsimp only
 refine wpAny_bind (wpAny_of_eq (F.slot_range_reversed.bind _) ?_)
 try dsimp only
 first
 | rw [if_neg (show ¬ ((Value.builtin "range.__reversed__" == Value.none)=true) from Bool.false_ne_true)]
 | (show wpAny _ _ (if (Value.builtin "range.__reversed__" == Value.none)=true then _ else _) _ _ _; rw [if_neg (show ¬ ((Value.builtin "range.__reversed__" == Value.none)=true) from Bool.false_ne_true)])
 refine wpAny_bind (wpAny_rule ?_)
 refine wpAny_bind (m:=runValue (.call (.builtin "range.__reversed__") ⟨[.ref r],[]⟩)) (show wpAny _ _ (call (.builtin "range.__reversed__") [.ref r]) _ _ _ from ky hr h0 h1 ?_)
 first
 | exact wpAny_pure h
 | exact wpAny_bind (wpAny_pure (wpAny_pure h))
theorem jx:isSubtype (.type "range_iterator") (.type "reversed")=pure false:=by rw [isSubtype_type]; kernel_rfl
theorem kP {r:Addr} {n:Int} {t u v:Tok} {Q:Value->Shared->Prop} (hr:IsRange s.heap r 0 n 1 t u v) (h0:0<=n) (h1:n < 2 ^ 62)
   (h:Q (.ref s.heap.objs.size) { s with heap:=s.heap.push (iM n) }):wpAny (model prog w) A (call (.type "reversed") [.ref r]) Q E s:=by
 refine callType_other (U:="range_iterator") (Q₁:=λobj s₁=>obj=.ref s.heap.objs.size/\s₁={ s with heap:=s.heap.push (iM n) }) (by decide +kernel) F.create_reversed ⟨_,_,F.mro_reversed⟩ F.made_reversed jx (F.typeCall_reversed_1 _) (mU hr h0 h1 ⟨rfl,rfl⟩) ?_
 rintro obj s₁ ⟨rfl,rfl⟩
 exact ⟨⟨_,Heap.get?_push_size _ rfl,rfl⟩,h⟩
end
noncomputable def Itd (n:Nat):L2.It:=⟨λi _=>i < n,λi H x H'=>H'=H/\x=.int ((n:Int) - 1 - i),λi _=>n<=i⟩
theorem wM {P:Program} {w:World} {K:PySem.W.Frag} {tg:Expr} (it:Addr) (n:Nat):Turn P w K false tg (Itd n) [it] it (λi h=>i<=n/\IsRangeIter h it ((n:Int) - 1 + (i:Nat) * (-1)) ((n:Int) - (i:Nat)) (-1)) where
 mem:=by simp
 obj:=λi h st b hb=>by
   have e:b=it:=by simpa using hb
   subst e
   exact ⟨_,st.2,λv z=>by
     have z':Data.fields _=Data.cell v:=z
     cases z'⟩
 keep:=λi h h' st k=>⟨st.1,k it (by simp) _ st.2⟩
 item:=by
   intro X hP hw hK hc i pins s σ H E I hf st hg
   subst hP hw hK
   obtain ⟨f0,f1,f2,f3,f4,f5⟩:=hf it (by simp)
   have W:=Walks.range (prog:=X.prog) (w:=X.w) (I.ok.hd hc.calm) it ((n:Int) - 1) (-1) n
   refine W.item i s _ _ hg st.2 λv h' tk hv st' kk=>?_
   obtain ⟨t,rfl⟩:=hv
   have I1:Inv X pins σ H { s with heap:=h',toks:=tk }:=I.turned (λb o hb e=>kk b o (by simpa using hb) e) f0 f1 f3 f4 f5
   refine ⟨_,rfl,rb (s:={ s with heap:=h',toks:=tk }) (n:="range_iterator") st' rfl rfl (by decide) ⟨.int ((n:Int) - 1 - i),H,I1,⟨t,?_⟩,⟨rfl,rfl⟩,⟨hg,st'⟩,λb hb=>(hf b hb).1⟩⟩
   rw [Int.mul_neg,Int.mul_one,<- Int.sub_eq_add_neg]
 done:=by
   intro X hP hw hK hc i pins s σ H E I hf st hg
   subst hP hw hK
   obtain ⟨f0,f1,f2,f3,f4,f5⟩:=hf it (by simp)
   have hg:n<=i:=hg
   obtain rfl:i=n:=Nat.le_antisymm st.1 hg
   have W:=Walks.range (prog:=X.prog) (w:=X.w) (I.ok.hd hc.calm) it ((i:Int) - 1) (-1) i
   exact W.done s _ _ st.2 λh' tk kk=>⟨rfl,I.turned (λb o hb e=>kk b o (by simpa using hb) e) f0 f1 f3 f4 f5⟩
 self:=λ_ _ _ _ _ st h=>wpAny_pyIter_rangeiter st.2 h
section
variable {X:Cx} {tg:Expr}
noncomputable def iDn (ta:TA):TI:=λσ H R=>ta σ H λvs H1=>∃ n:Nat,vs=[.int n]/\n < 1000/\R (Itd n) H1
theorem yA {a:Expr} {ta:TA} {p p' pos pos':Pos} (hc:X.calm=true) (hg:Gl X "reversed") (hm:X.mg "reversed" = none) (hg':Gl X "range") (hm':X.mg "range" = none) (ha:PA X [a] ta) (hs':starEach [a] X.env=[(false,eval a X.env)]:=by rfl)
   (hs:starEach [.Call (.Name "range" p') [a] [] pos'] X.env=[(false,eval (.Call (.Name "range" p') [a] [] pos') X.env)]:=by rfl):PI X tg (.Call (.Name "reversed" p) [.Call (.Name "range" p') [a] [] pos'] [] pos) (iDn ta):=by
 intro pins s σ H R I h
 refine Call_ (eY I hg hm uu (PyProof.Rows.callWith_type1 ?_ hs rfl))
 rw [hs]
 refine Calls.spliced_cons (Call_ (eY I hg' hm' boot_range (PyProof.Rows.callWith_type1 (thn (ha pos' pins s σ H _ I h) λus s1 ⟨vs,H1,I1,r1,n,e,hn,q⟩=>?_) hs' rfl)))
 subst e
 cases r1 with
 | cons r rr=>
   cases rr
   obtain ⟨t,rfl⟩:=r
   refine call_range_1 (Calls.spliced_nil ?_)
   have I2:Inv X pins σ H1 { s1 with heap:=s1.heap.push { cls:=.type "range",data:=.fields #[.int 0 s1.toks,.int n t,.int 1 (s1.toks + 1)] },toks:=s1.toks + 1 + 1 }:=I1.kept λb o e=>Heap.get?_push_of_some _ e
   refine kP (IsRange.new ..) (by omega) (by omega) ?_
   have z:rangeSize 0 (n:Int) 1=n:=vQ (by omega)
   have st:(Heap.push (s1.heap.push { cls:=.type "range",data:=.fields #[.int 0 s1.toks,.int n t,.int 1 (s1.toks + 1)] }) (iM n)).get? (s1.heap.push { cls:=.type "range",data:=.fields #[.int 0 s1.toks,.int n t,.int 1 (s1.toks + 1)] }).objs.size=some (iM n):=Heap.get?_push_size _ rfl
   have st':IsRangeIter (Heap.push (s1.heap.push { cls:=.type "range",data:=.fields #[.int 0 s1.toks,.int n t,.int 1 (s1.toks + 1)] }) (iM n)) (s1.heap.push { cls:=.type "range",data:=.fields #[.int 0 s1.toks,.int n t,.int 1 (s1.toks + 1)] }).objs.size ((n:Int) - 1 + ((0:Nat):Int) * (-1)) ((n:Int) - ((0:Nat):Int)) (-1):=by
     unfold IsRangeIter
     rw [st,iM,z]
     congr 6
     all_goals (simp)
   refine wpAny_pyIter_rangeiter (x:=(n:Int) - 1 + ((0:Nat):Int) * (-1)) (left:=(n:Int) - ((0:Nat):Int)) (step:=-1) st' ?_
   refine ⟨false,_,[(s1.heap.push { cls:=.type "range",data:=.fields #[.int 0 s1.toks,.int n t,.int 1 (s1.toks + 1)] }).objs.size],_,_,H1,rfl,I2.kept (t':=s1.toks + 1 + 1) λb o e=>Heap.get?_push_of_some _ e,.inl hc,wM _ n,⟨Nat.zero_le _,st'⟩,λb hb=>?_,q⟩
   have e:b=(s1.heap.push { cls:=.type "range",data:=.fields #[.int 0 s1.toks,.int n t,.int 1 (s1.toks + 1)] }).objs.size:=by simpa using hb
   subst e
   exact I2.oA (Nat.le_refl _) (I2.hok.fresh (Nat.le_refl _))
end
end Ev
namespace Ev
open PySem PySem.Spec PyProof.Rows L2
noncomputable def cP (kv:List (Int × Int)):List (Key × V):=kv.map λp=>(.inl p.1,.int p.2)
noncomputable def Itk (a:Addr) (o:Obj) (kv:List (Int × Int)):L2.It:=
 ⟨λi H=>i < kv.length/\H a=some (.frz o (.dK (cP kv))),λi H x H'=>H'=H/\∃ p,kv[i]?=some p/\x=.int p.1,λi H=>kv.length<=i/\H a=some (.frz o (.dK (cP kv)))⟩
theorem u4 {X:Cx} {pins:List (Addr × Obj)} {σ:L2.St} {H:Hp} {s:Shared} {a:Addr} {o:Obj} {kvs:List (Key × V)} {es:Array DictEntry} {ep:Nat} (I:Inv X pins σ H s) (h:H a=some (.frz o (.dK kvs))) (hd:o.data=.dict es ep) :
   ∃ vs,KV kvs vs/\s.heap.DictAt (bJ X.prog X.w) a vs ep:=by
 obtain ⟨e,_,_,vs,rel,o',es',ep',e',r⟩:=(show bR X.prog X.w H s.heap a (.frz o (.dK kvs)) from I.hok a _ h)
 rw [e] at e'; cases e'
 have z:=r.2.1
 rw [hd] at z
 injection z with z1 z2
 subst z1 z2
 exact ⟨vs,rel,o,es,e,r⟩
theorem sE {P:Program} {w:World} {K:PySem.W.Frag} {tg:Expr} (a it:Addr) (o:Obj) (kv:List (Int × Int)) (es:Array DictEntry) (ep:Nat) (hd:o.data=.dict es ep) :
   Turn P w K false tg (Itk a o kv) [it] it (λi h=>i<=kv.length/\h.IsKeyIter it a i kv.length ep) where
 mem:=by simp
 obj:=λi h st b hb=>by
   have e:b=it:=by simpa using hb
   subst e
   obtain ⟨o,e,c,d⟩:=st.2
   exact ⟨o,e,λv z=>by rw [d] at z; cases z⟩
 keep:=λi h h' st k=>⟨st.1,st.2.at λo e=>k it (by simp) o e⟩
 item:=by
   intro X hP hw hK hc i pins s σ H E I hf st hg
   subst hP hw hK
   obtain ⟨hi,ha⟩:=hg
   obtain ⟨f0,f1,f2,f3,f4,f5⟩:=hf it (by simp)
   obtain ⟨vs,rel,dd⟩:=u4 I ha hd
   have hl:kv.length=vs.length:=by rw [<- rel.length,cP,List.length_map]
   have st2:=st.2
   rw [hl] at st2
   have hx:vs[i]?=some vs[i]:=by simp [show i < vs.length by omega]
   have kk:=congrArg (λl=>l[i]?) rel.keys
   simp only [cP,List.map_map,List.getElem?_map,hx,List.getElem?_eq_getElem hi,Option.map_some,Function.comp] at kk
   have kk:=Option.some.inj kk
   refine wpAny_pyNext_dict_item st2 dd hx λkey h' hk st' sb=>?_
   have hk:(bJ X.prog X.w).is (Sum.inl kv[i].fst) key=true:=by rw [kk]; exact hk
   obtain ⟨t,rfl⟩:=Value.isInt_shape (show Value.isInt _ key=true from hk)
   have I1:Inv X pins σ H { s with heap:=h' }:=I.turned (t':=s.toks) (λb o hb e=>(sb.2 b hb).trans e) f0 f1 f3 f4 f5
   obtain ⟨o',e,c,d⟩:=id st'
   refine ⟨_,rfl,rb (s:={ s with heap:=h' }) e c d (by decide) ⟨.int kv[i].1,H,I1,⟨t,rfl⟩,⟨rfl,_,List.getElem?_eq_getElem hi,rfl⟩,⟨hi,by rw [hl]; exact st'⟩,λb hb=>(hf b hb).1⟩⟩
 done:=by
   intro X hP hw hK hc i pins s σ H E I hf st hg
   subst hP hw hK
   obtain ⟨hi,ha⟩:=hg
   obtain ⟨f0,f1,f2,f3,f4,f5⟩:=hf it (by simp)
   obtain ⟨vs,rel,dd⟩:=u4 I ha hd
   have hl:kv.length=vs.length:=by rw [<- rel.length,cP,List.length_map]
   have st2:=st.2
   rw [hl] at st2
   exact wpAny_pyNext_dict_end (I.ok.hd hc.calm) st2 dd (List.getElem?_eq_none (by omega)) λh' eb=>⟨rfl,I.turned (t':=s.toks) (λb o hb e=>eb b o hb e) f0 f1 f3 f4 f5⟩
 self:=λ_ _ _ _ _ st h=>wpAny_pyIter_keyiter st.2 h
section
variable {X:Cx} {tg:Expr}
noncomputable def vY (tl:TE):TI:=λσ H R=>tl σ H λx H1=>∃ a o kv,x=.ref a/\H1 a=some (.frz o (.dK (cP kv)))/\R (Itk a o kv) H1
theorem nV {l:Expr} {tl:TE} (hc:X.calm=true) (hl:PE X l tl):PI X tg l (vY tl):=by
 intro pins s σ H R I h
 refine thn (hl pins s σ H _ I h) λu s1 ⟨x,H1,I1,r1,a,o,kv,ex,ha,q⟩=>?_
 subst ex
 cases r1
 obtain ⟨e,ok⟩:=(show bR X.prog X.w H1 s1.heap a (.frz o (.dK (cP kv))) from I1.hok a _ ha)
 obtain ⟨z,hd,vs,rel,o',es,ep,e',r⟩:=ok
 rw [e] at e'
 cases e'
 refine wpAny_pyIter_dict hd (show s1.heap.DictAt (bJ X.prog X.w) a vs ep from ⟨o,es,e,r⟩) ?_
 have hv:vs.length=kv.length:=by rw [<- rel.length,cP,List.length_map]
 refine ⟨false,s1.heap.objs.size,[s1.heap.objs.size],_,_,H1,rfl,I1.kept (t':=s1.toks) λb o e=>Heap.get?_push_of_some _ e,.inl hc,sE a _ o kv es ep r.2.1,⟨Nat.zero_le _,?_⟩,λb hb=>?_,q⟩
 · rw [<- hv]
   exact ⟨_,Heap.get?_push_size _ rfl,rfl,rfl⟩
 · have e:b=s1.heap.objs.size:=by simpa using hb
   subst e
   exact I1.oA (Nat.le_refl _) (I1.hok.fresh (Nat.le_refl _))
end
end Ev
namespace Hy
open PySem PySem.Spec PyProof.Rows L2
open Ev (D Den aq aC aB ak ba aM)
section
variable {X:Cx} {C:Bool} {τ:List Sl} {x y z:D} {a b e:Expr} {es:List Expr} {pos p:Pos} {k:Nat} {s:Sl} {ds:List D} {i j:Int}
theorem xY:OpR X (binaryOp .Add) (λx y H Q=>∃ l b xs zs,x=.ref l/\y=.ref b/\SqL X.K H l xs/\SqL X.K H b zs/\xs.length + zs.length<=sizeLine/\∀ p,H p=none->Q (.ref p) (upd H p (.lst (xs++zs)))):=by
 intro pins s σ H x y v u Q I rx ry h
 obtain ⟨l,b,xs,zs,rfl,rfl,hH,hB,hz,q⟩:=h
 cases rx
 cases ry
 obtain ⟨its,r,pl,_⟩:=I.list hH
 obtain ⟨its2,r2,pl2,_⟩:=I.list hB
 have hl:=r.length
 have hl2:=r2.length
 obtain ⟨⟨cls,dd,data,sl⟩,ho,hc,n,hd⟩:=pl.isList
 obtain ⟨⟨cls2,dd2,data2,sl2⟩,ho2,hc2,n2,hd2⟩:=pl2.isList
 simp only at hc hd hc2 hd2
 subst hc hd hc2 hd2
 have e:its.toArray++its2.toArray=(its++its2).toArray:=by simp
 refine concat_meets ⟨_,ho,rfl⟩ ⟨_,ho2,rfl⟩ noFill_list_add seq_list_add PySem.F.slot_list_add PySem.F.entry_list_add (PySem.F.args_list_add_2 _ _) (list_addW l b its.toArray its2.toArray n n2 dd dd2 sl sl2 (by rw [List.size_toArray,List.size_toArray]; omega)) ⟨ho,ho2,?_⟩
 rw [e]
 exact ⟨.ref _,_,I.A5 (t':=s.toks) (r.append r2) (by rw [List.length_append]; omega),rfl,q _ I.fresh⟩
theorem ot {xs ys:List D} (ha:PE X a (dE X.K C τ (.d (.lst xs)))) (hb:PE X b (dE X.K C τ (.d (.lst ys)))) (hl:xs.length + ys.length < 1000000):PE X (.BinOp a .Add b pos) (dE X.K C τ (.o (xs++ys))):=peW (vB xY ha hb) λσ H Q ⟨A,H₀,B,S,k⟩=>
 aQ S λv H1 e1 d1=>aQ (S.mono e1) λw H2 e2 d2=>by
   cases d1 with
   | lst h1 r1=>cases d2 with
     | lst h2 r2=>
       refine ⟨_,_,_,_,rfl,rfl,aM (aW.trans e2) h1,aM aW h2,by rw [r1.length,r2.length]; exact Nat.le_of_lt (Nat.lt_trans hl (by decide)),λp hp=>?_⟩
       obtain ⟨z1,z2,z3⟩:=mT (K:=X.K) hp ((r1.mono (az e2 λ_ z=>z)).append r2)
       exact k _ _ [p] (e1.trans (e2.trans z1)) (λb hb=>⟨(e1.trans e2).free (z2 b hb).1,(z2 b hb).2⟩) z3
theorem mkL (h:i.natAbs < 2 ^ 60):aC i j:=.inl (by
 rcases Nat.eq_zero_or_pos i.natAbs with z | z
 · rw [z]; decide
 · exact Nat.lt_trans ((Nat.log2_lt (by omega)).mpr h) (by decide))
theorem mkR (h:j.natAbs < 2 ^ 60):aC i j:=.inr (.inl (by
 rcases Nat.eq_zero_or_pos j.natAbs with z | z
 · rw [z]; decide
 · exact Nat.lt_trans ((Nat.log2_lt (by omega)).mpr h) (by decide)))
theorem mkD (h0:j ≠ 0) (h:j.natAbs < 2 ^ 62):aB j:=⟨h0,Nat.lt_trans ((Nat.log2_lt (by omega)).mpr h) (by decide)⟩
end
theorem aD {α:Type} {xs:List α} {i:Nat} {x:α} (h:xs[i]?=some x):atI xs (i:Int)=some x:=by
 unfold atI ixN
 have:=(List.getElem?_eq_some_iff.mp h).1
 rw [if_pos (by omega),if_pos (by omega)]
 simpa using h
theorem uG {ns:List Int} {i:Int} (h0:0<=i) (h:i.toNat < ns.length):atI (ns.map D.int) i=some (.int (ns.getD i.toNat 0)):=by
 obtain ⟨n,rfl⟩:=Int.eq_ofNat_of_zero_le h0
 exact aD (by
   have h:n < ns.length:=h
   simp [h])
theorem wA {xs:List D} (m n:Nat):cutD xs (some (m:Int)) (some (n:Int))=(xs.take n).drop m:=by
 unfold cutD
 rw [HT.rg,HT.rg]
 rw [<- List.drop_take]
 rcases Nat.le_total n xs.length with h | h
 · rw [Nat.min_eq_left h]
   rcases Nat.le_total m xs.length with h' | h'
   · rw [Nat.min_eq_left h']
   · rw [Nat.min_eq_right h',List.drop_eq_nil_of_le (by simp; omega),List.drop_eq_nil_of_le (by simp; omega)]
 · rw [Nat.min_eq_right h,List.take_of_length_le (Nat.le_refl _),List.take_of_length_le h]
   rcases Nat.le_total m xs.length with h' | h'
   · rw [Nat.min_eq_left h']
   · rw [Nat.min_eq_right h',List.drop_eq_nil_of_le (Nat.le_refl _),List.drop_eq_nil_of_le h']
theorem getD_none {α:Type} {xs:List α} {i:Nat} {d:α} (h:xs.length<=i):xs.getD i d=d:=by simp [List.getD,h]
theorem ex1 {α:Type} {p:α->Prop} {a:α} (h:p a):∃ a,p a:=⟨a,h⟩
theorem ex3 {α:Type} {p:α->α->α->Prop} {a b c:α} (h:p a b c):∃ a b c,p a b c:=⟨a,b,c,h⟩
end Hy
namespace L2
open PySem PySem.Spec PyProof.Rows PySem.SeqAt
section
variable {P:Program} {w:World} {A:Around} {E:Value->Shared->Prop} {s:Shared}
noncomputable def HK (P:Program) (w:World) (A:Around) (h:Heap) (v:Value) (x:Int) (d:Nat):Prop:=
 ∀ (s:Shared) (E:Value->Shared->Prop) (Q:Int->Shared->Prop),s.heap=h->Q x { s with toks:=s.toks + d }->wpAny (model P w) A (pyHash v) Q E s
end
structure IK (P:Program) (w:World) (K:Type) [DecidableEq K] where
 is:Heap->K->Value->Prop
 hash:K->Int
 draws:K->Nat
 dep:Nat
 inj:∀ {h:Heap} {v:Value} {x y:K},is h x v->is h y v->x=y
 keeps:∀ {h h':Heap} {k:K} {v:Value} {d:Addr} {o:Obj} {es ep},is h k v->h.get? d=some o->o.data=.dict es ep->Heap.SameBut d h h'->is h' k v
 hk:∀ {A:Around} {h:Heap} {k:K} {v:Value},is h k v->A.units + dep < cLine->HK P w A h v (hash k) (draws k)
 eq:∀ {A:Around} {s:Shared} {x y:K} {u v:Value},is s.heap x u->is s.heap y v->A.units + dep < cLine->EqAt A s u v (decide (x=y))
 quiet:∀ {s:Shared} {k:K} {v:Value} {n:Nat},dep < n->is s.heap k v->∀ A E Q,Q true s->wpAny (model P w) A (eqIsQuiet n v) Q E s
section
variable {P:Program} {w:World}
variable {K K':Type} [DecidableEq K] [DecidableEq K']
noncomputable def kindOf (a:IK P w K) (hd:a.dep<=7):HeapKind P w K where
 is:=λh k p=>a.is h k (.ref p)
 hash:=a.hash
 draws:=a.draws
 room:=λA=>A.units + 8 < cLine
 inj:=a.inj
 keeps:=a.keeps
 pyHash:=λ{A E s k p Q} hu hk h=>a.hk hk (by omega) s E Q rfl h
 eqBool:=λ{A E s x y p p' Q} hu hx hy h=>a.eq hx hy (by omega) _ _ _ _ h
 quiet:=λ{A E s k p Q} hk h=>a.quiet (by omega) hk A E Q h
end
section
variable {K:Type}
end
section
variable {P:Program} {w:World} {K:Type} [DecidableEq K]
end
end L2
namespace Ev
open PySem PySem.Spec PyProof.Rows L2
structure KD (K:Type) [DecidableEq K] where
 ik:∀ (P:Program) (w:World),IK P w K
 dep:Nat
 dep_ok:∀ P w,(ik P w).dep=dep
 toD:K->D
 den:∀ {X:Cx} {pins:List (Addr × Obj)} {σ:L2.St} {H:Hp} {s:Shared} {v:V} {u:Value} {k:K},Inv X pins σ H s->Den X.K H v (toD k)->RelV v u->(ik X.prog X.w).is s.heap k u
section
variable {K K':Type} [DecidableEq K] [DecidableEq K']
noncomputable abbrev NEs (K:Type):=List (K × Addr × Value)
noncomputable def kd (a:KD K) (hd:a.dep<=7) (P:Program) (w:World):HeapKind P w K:=kindOf (a.ik P w) (by rw [a.dep_ok]; exact hd)
variable {a:KD K} {hd:a.dep<=7}
variable {X:Cx} {pins:List (Addr × Obj)} {σ:L2.St} {H:Hp} {s:Shared} {d b:Addr} {xs:NEs K} {k:K} {A:Around} {E:Value->Shared->Prop}
variable {o i e value:Expr} {pos pos':Pos} {td ty tv:TE}
end
end Ev
namespace Hy
open PySem PySem.Spec PyProof.Rows L2
open Ev (D Den aq KD NEs)
section
variable {K:Type} [DecidableEq K]
variable {a:KD K} {F:PySem.W.Frag} {G G':Hp}
end
end Hy
namespace Hy
open PySem PySem.Spec PyProof.Rows L2
open Ev (D Den aq KD NEs ak)
section
variable {K:Type} [DecidableEq K] {a:KD K} {hd:a.dep<=7} {X:Cx} {C:Bool} {τ:List Sl} {x:D} {b e ix:Expr} {pos p q:Pos} {k:Nat} {N:Po} {rest:List Stmt} {m:List (K × D)} {key:K}
end
section
variable {K:PySem.W.Frag} {A:Addr->Prop} {H₀ H H':Hp} {τ:List Sl} {B:Nat->List Addr} {σ:L2.St}
theorem Sta.B6 (S:Sta K A H₀ τ B σ H) {i:Nat} {a:Addr} {E E':Ex} {o':HO} (hi:τ[i]?=some (.x E)) (hB:B i=[a]) (d:E'.p K (hd H (own A B)) o' a):Sta K A H₀ (τ.set i (.x E')) B σ (upd H a o'):=by
 have ha:own A B a:=.inr ⟨i,by rw [hB]; exact List.mem_singleton.mpr rfl⟩
 have ne:∀ b,b ≠ a->upd H a o' b=H b:=λb h=>av h
 have sm:ai (hd H (own A B)) (hd (upd H a o') (own A B)):=λb o z=>by
   obtain ⟨z1,z2⟩:=ao.mp z
   exact ao.mpr ⟨z1,by rw [ne b (λe=>z1 (e ▸ ha))]; exact z2⟩
 have f0:H₀ a=none:=S.fr i a (by rw [hB]; exact List.mem_singleton.mpr rfl)
 have hs:ai H₀ (upd H a o'):=λb o z=>by rw [ne b (λe=>by rw [e,f0] at z; cases z)]; exact S.same b o z
 refine ⟨hs,by rw [List.length_set,S.len],λj t hj=>?_,S.fr,S.uq,S.ad,λj b hb=>?_⟩
 · by_cases ej:j=i
   · subst ej
     have hl:=(List.getElem?_eq_some_iff.mp hi).1
     rw [List.getElem?_set_self hl] at hj
     cases hj
     obtain ⟨a',o,e1,e2,_,_⟩:=S.sl j _ hi
     rw [hB] at e1
     cases e1
     exact ⟨a,o',hB,e2,aJ,E'.mono sm d⟩
   · rw [List.getElem?_set_ne (λz=>ej z.symm)] at hj
     have off:∀ b ∈ B j,b ≠ a:=λb hb e=>ej (S.uq j i a (e ▸ hb) (by rw [hB]; exact List.mem_singleton.mpr rfl))
     have q:=S.sl j t hj
     cases t with
     | un=>exact q
     | d x=>obtain ⟨z,u,e,d⟩:=q; exact ⟨z,u,e,d.mono sm⟩
     | o zs=>
       obtain ⟨c,ws,z1,z2,z3,z4⟩:=q
       exact ⟨c,ws,z1,z2,by rw [ne c (off c (by rw [z1]; exact List.mem_singleton.mpr rfl))]; exact z3,z4.mono sm⟩
     | n t=>
       obtain ⟨z0,u,z1,z2⟩:=q
       exact ⟨z0,u,z1,z2.frame sm λb hb=>ne b (off b hb)⟩
     | x E=>
       obtain ⟨c,o,z1,z2,z3,z4⟩:=q
       exact ⟨c,o,z1,z2,by rw [ne c (off c (by rw [z1]; exact List.mem_singleton.mpr rfl))]; exact z3,E.mono sm z4⟩
 · by_cases e:b=a
   · subst e; exact ⟨_,aJ⟩
   · rw [ne b e]; exact S.bd j b hb
end
section
variable {K:Type} [DecidableEq K] {a:KD K} {hd:a.dep<=7} {X:Cx} {C:Bool} {τ:List Sl} {x:D} {b e ix:Expr} {pos p q sp:Pos} {k:Nat} {N:Po} {rest:List Stmt} {m:List (K × D)} {key:K}
end
end Hy
namespace Hy
open PySem PySem.Spec PyProof.Rows L2
open Ev (D Den aq Bx ak cP Itk vY nV Itd iDn yA)
noncomputable def gA (kv:List (Int × Int)) (k v:Int):List (Int × Int):=
 if (kv.any λp=>decide (p.1=k))=true then kv.map (λp=>if p.1=k then (p.1,v) else p) else kv++[(k,v)]
noncomputable def bQ (kv:List (Int × Int)) (k:Int):Option Int:=(kv.find? λp=>decide (p.1=k)).map (·.2)
theorem wR (kv:List (Int × Int)) (k:Int):((cP kv).any λp=>decide (p.1=.inl k))=kv.any λp=>decide (p.1=k):=by
 unfold cP
 rw [List.any_map]
 congr 1
 funext p
 simp
theorem rX (kv:List (Int × Int)) (k v:Int):putK (cP kv) (.inl k) (.int v)=cP (gA kv k v):=by
 unfold putK gA
 rw [wR]
 by_cases h:(kv.any λp=>decide (p.1=k))=true
 · rw [if_pos h,if_pos h]
   unfold cP
   rw [List.map_map,List.map_map]
   refine List.map_congr_left λp _=>?_
   simp only [Function.comp]
   by_cases z:p.1=k
   · rw [if_pos (congrArg Sum.inl z),if_pos z]
   · rw [if_neg (λy=>z (Sum.inl.inj y)),if_neg z]
 · rw [if_neg h,if_neg h]
   unfold cP
   rw [List.map_append]
   rfl
theorem iz:∀ (kv:List (Int × Int)) (k:Int),eX (cP kv) (.inl k)=(bQ kv k).map V.int
 | [],_=>rfl
 | p :: r,k=>by
   unfold bQ
   by_cases z:p.1=k
   · rw [List.find?_cons_of_pos (by simp [z])]
     exact bN (p:=(Sum.inl p.1,V.int p.2)) (congrArg Sum.inl z)
   · rw [List.find?_cons_of_neg (by simp [z])]
     exact (bL (p:=(Sum.inl p.1,V.int p.2)) (λy=>z (Sum.inl.inj y))).trans (iz r k)
theorem xv (kv:List (Int × Int)) (k v:Int):(gA kv k v).length<=kv.length + 1:=by
 unfold gA
 split
 · rw [List.length_map]; omega
 · rw [List.length_append,List.length_cons,List.length_nil]; omega
noncomputable def exZ (m:List (Int × Int)):Ex where
 p:=λ_ _ o _=>o=.dK (cP m)
 mono:=λ_ h=>h
 ext:=λh=>.inr (.inr ⟨_,.inl h⟩)
noncomputable def exF (ob:Obj) (m:List (Int × Int)):Ex where
 p:=λ_ _ o _=>o=.frz ob (.dK (cP m))
 mono:=λ_ h=>h
 ext:=λh=>.inr (.inr ⟨_,.inr ⟨_,h⟩⟩)
noncomputable def bxZ (m:List (Int × Int)):Bx where
 p:=λ_ H d=>∃ o,H d=some (.frz o (.dK (cP m)))
 mono:=λe ⟨o,h⟩=>⟨o,e _ _ h⟩
 isd:=λ⟨o,h⟩=>⟨_,h,λP w H' h z=>by
   obtain ⟨_,_,_,vs,_,ob,_,_,z1,z2,_⟩:=z
   exact ⟨ob,z1,z2.1⟩⟩
section
variable {K:PySem.W.Frag} {A:Addr->Prop} {H₀ H:Hp} {τ:List Sl} {B:Nat->List Addr} {σ:L2.St} {m:List (Int × Int)} {i:Nat}
theorem Sta.dz (S:Sta K A H₀ τ B σ H) (hi:τ[i]?=some (.x (exZ m))):∃ d,(σ[i]?).join=some (.ref d)/\B i=[d]/\H d=some (.dK (cP m)):=by
 obtain ⟨d,o,h1,h2,h3,h4⟩:=S.sl i _ hi
 cases (show o=_ from h4)
 exact ⟨d,h2,h1,h3⟩
theorem Sta.fzF {ob:Obj} (S:Sta K A H₀ τ B σ H) (hi:τ[i]?=some (.x (exF ob m))):Sta K A H₀ (τ.set i (.d (.box (bxZ m)))) (upB B i []) σ H:=
 S.less (λ_ z=>nomatch z) λG g hv=>by
   obtain ⟨d,o,h1,h2,h3,h4⟩:=S.sl i _ hi
   cases (show o=_ from h4)
   exact ⟨rfl,_,h2,.box ⟨ob,hv d _ (by rw [h1]; exact List.mem_singleton.mpr rfl) (λz=>nomatch z) h3⟩⟩
end
section
variable {X:Cx} {C:Bool} {τ:List Sl} {x y:D} {a b e f o ix tg:Expr} {pos p q apos cpos sp:Pos} {k:Nat} {N:Po} {rest:List Stmt} {m:List (Int × Int)} {key v n:Int}
theorem B1 {xs:List D} {n:Nat} (h:xs.length=n):kJ X (.builtin "len") [.lst xs] (.d (.int n)):=h ▸ jr
theorem wB {n:Str}:vS (.Name n p):=λ_ _=>rfl
theorem wb {op:Operator}:vS (.BinOp a op b p):=λ_ _=>rfl
theorem zW:PE X (.Dict [] [] pos) (dE X.K C τ (.x (exZ []))):=peW t8 λσ H Q ⟨A,H₀,B,S,k⟩=>λp hp=>k (.ref p) _ [p] (ak hp _) (λb hb=>by rw [List.mem_singleton.mp hb]; exact ⟨hp,_,aJ⟩) ⟨p,_,rfl,rfl,aJ,rfl⟩
theorem AE {j l:Nat}:PE X (.Dict [some (.Constant (.int key) j p)] [.Constant (.int v) l q] pos) (dE X.K C τ (.x (exZ [(key,v)]))):=peW (xu (vG pN pN xx) rfl rfl (by simp) (by show (1:Nat)<=15; decide)) λσ H Q ⟨A,H₀,B,S,k⟩=>λp hp=>by
 refine ⟨aJ,[(.inl key,.int v)],rfl,(by show (1:Nat)<=15; decide),?_⟩
 have e:upd (upd H p (.dK [])) p (.dK (iT [] [(Sum.inl key,V.int v)]))=upd H p (.dK (cP [(key,v)])):=by
   funext b
   unfold upd
   split <;> rfl
 rw [e]
 exact k (.ref p) _ [p] (ak hp _) (λb hb=>by rw [List.mem_singleton.mp hb]; exact ⟨hp,_,aJ⟩) ⟨p,_,rfl,rfl,aJ,rfl⟩
theorem yN (i:Nat) (h:PSs X rest (dS X.K (τ.set i (.d (.box (bxZ m)))) N)) (hi:τ[i]?=some (.x (exZ m)):=by rfl):PSs X rest (dS X.K τ N):=by
 intro pins s σ H D I ⟨A,H₀,B,S,Me⟩
 obtain ⟨d,h1,h2,h3⟩:=S.dz hi
 obtain ⟨z,hd,vs,rel,dd⟩:=ua I.hok h3
 obtain ⟨o,es,ep,e,r⟩:=id dd
 have I2:Inv X pins σ (upd H d (.frz o (.dK (cP m)))) s:=mG (t':=s.toks) (h':=s.heap) I (by rw [h3]; exact True.intro) (.refl _ _) ⟨o,e⟩ ⟨e,qJ z hd rel dd⟩
 have hl:=(List.getElem?_eq_some_iff.mp hi).1
 have S2:=S.B6 (E':=exF o m) hi h2 rfl
 have S3:=S2.fzF (ob:=o) (m:=m) (List.getElem?_set_self hl)
 rw [List.set_set] at S3
 exact h pins s σ _ D I2 ⟨A,H₀,_,S3,Me⟩
theorem vE (hu:X.A.units + 1 < cLine) (hb:PE X b (dE X.K C τ (.d (.box (bxZ m))))) (hk:PE X ix (dE X.K C τ (.d (.int key)))) (hx:bQ m key=some v) (hs:vS ix):PE X (.Subscript b ix pos) (dE X.K C τ (.d (.int v))):=
 peW (xD hu hb hk hs) λσ H Q q=>by
   obtain ⟨A,H₀,B,S,kk⟩:=fU q
   refine aQ S λu H1 e1 d1=>aQ (S.mono e1) λy H2 e2 dy=>?_
   cases dy
   cases d1.mono (az e2 λ_ z=>z) with
   | box h=>
     obtain ⟨o,g⟩:=h
     exact ⟨_,.int v,rfl,⟨_,.inl key,.inr ⟨o,aW _ _ g⟩,rfl,by rw [iz,hx]; rfl⟩,kk _ H2 (e1.trans e2) .int⟩
theorem yf (i:Nat) {nm:Str} (hu:X.A.units + 1 < cLine) (hi:τ[i]?=some (.x (exZ m))) (hk:PE X e (dE X.K false τ (.d (.int key)))) (hx:PE X f (dE X.K false τ (.d (.int v)))) (m2:M2 X (.Name nm p) "get" apos e f cpos:=by exact ⟨rfl,rfl,rfl,rfl⟩) (hN:X.N[i]?=some nm:=by rfl)
   (hv:Vis X.env.scope nm:=by first | exact Or.inl rfl | exact Or.inr (Or.inl rfl) | exact Or.inr (Or.inr rfl)) (hd1:(nm == ("__debug__" : Str))=false:=by decide) (hcd:(nm == ("__classdict__" : Str))=false:=by decide):PE X (.Call (.Attribute (.Name nm p) "get" apos) [e,f] [] cpos) (dE X.K C τ (.d (.int ((bQ m key).getD v)))):=
 peW (t7 hu (bT (i:=i) hN hv hd1 hcd) hk hx m2) λσ H Q q=>by
   obtain ⟨A,H₀,B,S,kk⟩:=fU q
   obtain ⟨d,h1,h2,h3⟩:=S.dz hi
   refine ⟨_,slot_of h1,d,rfl,⟨_,.inl h3⟩,aQ S λy H2 e2 dy=>aQ (S.mono e2) λz H3 e3 dz=>?_⟩
   cases dy
   cases dz
   refine ⟨_,⟨_,.inl key,.inl ((e2.trans e3) _ _ h3),rfl,rfl⟩,?_⟩
   have e:(eX (cP m) (.inl key)).getD (.int v)=V.int ((bQ m key).getD v):=by rw [iz]; cases bQ m key <;> rfl
   rw [e]
   exact kk _ H3 (e2.trans e3) .int
theorem AK (i:Nat) {nm:Str} (hu:X.A.units + 1 < cLine) (hi:τ[i]?=some (.x (exZ m))) (hk:PE X ix (dE X.K true τ (.d (.int key)))) (he:PE X e (dE X.K true τ (.d (.int v)))) (hl:m.length < sizeLine)
   (hn:PSs X rest (dS X.K (τ.set i (.x (exZ (gA m key v)))) N)) (hN:X.N[i]?=some nm:=by rfl)
   (hv:Vis X.env.scope nm:=by first | exact Or.inl rfl | exact Or.inr (Or.inl rfl) | exact Or.inr (Or.inr rfl)) (hd1:(nm == ("__debug__" : Str))=false:=by decide) (hcd:(nm == ("__classdict__" : Str))=false:=by decide)
   (hs:swapsWith e (some (.Subscript (.Name nm p) ix sp)) pos.line X.env=pure false:=by rfl):PSs X (.Assign [.Subscript (.Name nm p) ix sp] e pos :: rest) (dS X.K τ N):=
 a7 (M:=(·=τ.set i (.x (exZ (gA m key v))))) (psW (wK hu (bT (i:=i) hN hv hd1 hcd) hk he hs) λD σ H ⟨A,H₀,B,S,Me⟩=>aQ S λu H1 e1 d1=>by
   cases d1
   have S1:=S.mono e1
   obtain ⟨d,g1,_⟩:=S1.dz hi
   refine ⟨_,slot_of g1,aQ S1 λy H2 e2 dy=>?_⟩
   cases dy
   have S2:=S1.mono e2
   obtain ⟨d',h1,h2,h3⟩:=S2.dz hi
   rw [g1] at h1
   cases h1
   refine ⟨d,_,rfl,⟨_,.inl key,h3,rfl,by unfold cP; rw [List.length_map]; exact hl,rfl⟩,?_⟩
   rw [rX]
   exact Me.nx _ _ _ _ rfl (S2.B6 hi h2 rfl)) λ_ e=>e ▸ hn
theorem xK (h:PE X e (dE X.K true τ (.d (.box (bxZ m))))) (hc:X.calm=true:=by first | rfl | assumption):PI X tg e (dI X.K τ (m.map λp=>.int p.1)):=piW (nV hc h) λσ H R ⟨A,H₀,B,S,k⟩=>aQ S λv H1 e1 d1=>by
 cases d1 with
 | box h=>
   obtain ⟨o,g⟩:=h
   refine ⟨_,o,m,rfl,aW _ _ g,k _ H1 e1 λH2 sg=>⟨λi hi=>⟨by simpa using hi,sg _ _ g⟩,λi hi=>⟨⟨by simpa using hi,sg _ _ g⟩,λx H' ⟨eH,p,hp,ex⟩=>?_⟩⟩⟩
   subst eH ex
   refine ⟨ai.refl _,λM _ _=>?_⟩
   have hi':i < m.length:=by simpa using hi
   rw [List.getElem?_eq_getElem hi'] at hp
   cases hp
   rw [List.getElem_map]
   exact .int
theorem xZ {m:List (Int × Int)}:∀ i (h:i < (m.map λp=>D.int p.1).length),(m.map λp=>D.int p.1)[i]=.int (m.getD i (0,0)).1:=λi h=>by
 have:i < m.length:=by simpa using h
 simp [this]
noncomputable def dnD (n:Nat):List D:=(List.range n).map λi:Nat=>.int ((n:Int) - 1 - (i:Int))
theorem iy (n:Nat):(dnD n).length=n:=by simp [dnD]
theorem Dp {n:Nat}:∀ i (h:i < (dnD n).length),(dnD n)[i]=.int ((n - 1 - i:Nat):Int):=λi h=>by
 rw [iy] at h
 simp only [dnD,List.getElem_map,List.getElem_range]
 congr 1
 omega
theorem DM {n:Nat} {p' pos':Pos} (B:Bk X k) (h:PE X a (dE X.K false τ (.d (.int n)))) (hn:n < 1000) (hg:Gl X "reversed":=by rfl) (hg':Gl X "range":=by rfl) (hs':starEach [a] X.env=[(false,eval a X.env)]:=by rfl)
   (hs:starEach [.Call (.Name "range" p') [a] [] pos'] X.env=[(false,eval (.Call (.Name "range" p') [a] [] pos') X.env)]:=by rfl):PI X tg (.Call (.Name "reversed" p) [.Call (.Name "range" p') [a] [] pos'] [] pos) (dI X.K τ (dnD n)):=
 piW (yA B.calm hg (B.blt _ (by decide)) hg' (B.blt _ (by decide)) (ae h ag hs') hs' hs) λσ H R ⟨A,H₀,B,S,k⟩=>eg S λvs H1 e1 d1=>by
   cases d1 with
   | cons d r=>
     cases r
     cases d
     refine ⟨n,rfl,hn,k _ H1 e1 λH2 sg=>⟨λi hi=>by rw [iy] at hi; exact hi,λi hi=>⟨by rw [iy] at hi; exact hi,λx H' ⟨eH,ex⟩=>?_⟩⟩⟩
     subst eH ex
     refine ⟨ai.refl _,λM _ _=>?_⟩
     simp only [dnD,List.getElem_map,List.getElem_range]
     exact .int
end
end Hy
namespace Hy
open PySem PySem.Spec PyProof.Rows L2
open Ev (D Den aq ak ba aM)
noncomputable def cM:List Nat->Nd->Option Nd
 | [],t=>some t
 | i :: p,.l xs=>(xs[i]?).bind (cM p)
 | i :: p,.t xs=>(xs[i]?).bind (cM p)
 | _ :: _,.d _=>none
noncomputable def b6:List Nat->Nd->Nd->Nd
 | [],_,n=>n
 | i :: p,.l xs,n=>.l (xs.set i (b6 p (xs.getD i (.d .non)) n))
 | i :: p,.t xs,n=>.t (xs.set i (b6 p (xs.getD i (.d .non)) n))
 | _ :: _,.d x,_=>.d x
noncomputable def cI (H:Hp):List Nat->V->V->Prop
 | [],u,v=>v=u
 | i :: p,u,v=>∃ a vs w,u=.ref a/\(H a=some (.lst vs)\/H a=some (.tup vs))/\vs[i]?=some w/\cI H p w v
theorem cI.mono {H H':Hp} (e:ai H H'):∀ {p:List Nat} {u v:V},cI H p u v->cI H' p u v
 | [],_,_,h=>h
 | _ :: _,_,_,⟨a,vs,w,h1,h2,h3,h4⟩=>⟨a,vs,w,h1,h2.elim (λz=>.inl (e _ _ z)) (λz=>.inr (e _ _ z)),h3,h4.mono e⟩
theorem cI.snoc {H:Hp} {i:Nat} {a:Addr} {vs:List V} {w:V}:∀ {p:List Nat} {u:V},cI H p u (.ref a)->(H a=some (.lst vs)\/H a=some (.tup vs))->vs[i]?=some w->cI H (p++[i]) u w
 | [],_,h,h1,h2=>⟨a,vs,w,h.symm,h1,h2,rfl⟩
 | _ :: _,_,⟨b,us,x,z1,z2,z3,z4⟩,h1,h2=>⟨b,us,x,z1,z2,z3,z4.snoc h1 h2⟩
section
variable {K:PySem.W.Frag} {G H:Hp}
theorem aI.length:∀ {vs:List V} {bs:List Addr} {xs:List Nd},aI K G H vs bs xs->vs.length=xs.length
 | _,_,_,.nil=>rfl
 | _,_,_,.cons _ r=>congrArg (· + 1) r.length
theorem aI.part:∀ {vs:List V} {bs:List Addr} {xs:List Nd} {i:Nat} {c:Nd},aI K G H vs bs xs->xs[i]?=some c->∃ v l m r,vs[i]?=some v/\bs=l++(m++r)/\bA K G H v m c /\
   ∀ {G' H':Hp} {m':List Addr} {c':Nd},ai G G'->(∀ b,b ∈ l\/b ∈ r->H' b=H b)->bA K G' H' v m' c'->aI K G' H' vs (l++(m'++r)) (xs.set i c')
 | _,_,_,_,_,.nil,e=>by cases e
 | _,_,_,0,_,.cons (b1:=b1) (b2:=b2) h r,e=>by
   cases e
   exact ⟨_,[],b1,b2,rfl,rfl,h,λg e h'=>by rw [List.nil_append]; exact .cons h' (r.frame g λb hb=>e b (.inr hb))⟩
 | _,_,_,i + 1,c,.cons (b1:=b1) h r,e=>by
   obtain ⟨v,l,m,q,h1,h2,h3,h4⟩:=aI.part (i:=i) (c:=c) r (by simpa using e)
   refine ⟨v,b1++l,m,q,by simpa using h1,by rw [h2,List.append_assoc],h3,λ{G' H' m' c'} g e h'=>?_⟩
   rw [List.append_assoc]
   exact .cons (h.frame g λb hb=>e b (.inl (List.mem_append_left _ hb))) (h4 g (λb hb=>e b (hb.elim (λz=>.inl (List.mem_append_right _ z)) .inr)) h')
theorem bA.focus:∀ (p:List Nat) {u:V} {bs:List Addr} {t c:Nd},bA K G H u bs t->cM p t=some c->∃ v l m r,cI H p u v/\bs=l++(m++r)/\bA K G H v m c /\
   ∀ {G' H':Hp} {m':List Addr} {c':Nd},ai G G'->(∀ b,b ∈ l\/b ∈ r->H' b=H b)->bA K G' H' v m' c'->bA K G' H' u (l++(m'++r)) (b6 p t c')
 | [],u,bs,tr,c,h,e=>by
   cases e
   exact ⟨u,[],bs,[],rfl,by simp,h,λg _ h'=>by simpa [b6] using h'⟩
 | i :: p,_,_,.l xs,c,.l (a:=a) (bs:=bs) hH r,e=>by
   rw [cM] at e
   cases ei:xs[i]? with
   | none=>rw [ei] at e; cases e
   | some x=>
     rw [ei] at e
     obtain ⟨v,l,m,q,h1,h2,h3,h4⟩:=r.part ei
     obtain ⟨w,l',m',q',g1,g2,g3,g4⟩:=bA.focus p h3 e
     refine ⟨w,a :: (l++l'),m',q'++q,⟨a,_,v,rfl,.inl hH,h1,g1⟩,by rw [h2,g2]; simp,g3,λ{G' H' m2 c2} g e2 h'=>?_⟩
     have k1:=g4 g (λb hb=>e2 b (hb.elim (λz=>.inl (List.mem_cons_of_mem _ (List.mem_append_right _ z))) λz=>.inr (List.mem_append_left _ z))) h'
     have k2:=h4 g (λb hb=>e2 b (hb.elim (λz=>.inl (List.mem_cons_of_mem _ (List.mem_append_left _ z))) λz=>.inr (List.mem_append_right _ z))) k1
     rw [b6,show xs.getD i (.d .non)=x by simp [List.getD,ei]]
     have k3:=bA.l (G:=G') (K:=K) (a:=a) (by rw [e2 a (.inl (List.mem_cons_self ..))]; exact hH) k2
     simpa using k3
 | i :: p,_,_,.t xs,c,.t (a:=a) (bs:=bs) hH r,e=>by
   rw [cM] at e
   cases ei:xs[i]? with
   | none=>rw [ei] at e; cases e
   | some x=>
     rw [ei] at e
     obtain ⟨v,l,m,q,h1,h2,h3,h4⟩:=r.part ei
     obtain ⟨w,l',m',q',g1,g2,g3,g4⟩:=bA.focus p h3 e
     refine ⟨w,a :: (l++l'),m',q'++q,⟨a,_,v,rfl,.inr hH,h1,g1⟩,by rw [h2,g2]; simp,g3,λ{G' H' m2 c2} g e2 h'=>?_⟩
     have k1:=g4 g (λb hb=>e2 b (hb.elim (λz=>.inl (List.mem_cons_of_mem _ (List.mem_append_right _ z))) λz=>.inr (List.mem_append_left _ z))) h'
     have k2:=h4 g (λb hb=>e2 b (hb.elim (λz=>.inl (List.mem_cons_of_mem _ (List.mem_append_left _ z))) λz=>.inr (List.mem_append_right _ z))) k1
     rw [b6,show xs.getD i (.d .non)=x by simp [List.getD,ei]]
     have k3:=bA.t (G:=G') (K:=K) (a:=a) (by rw [e2 a (.inl (List.mem_cons_self ..))]; exact hH) k2
     simpa using k3
theorem cI.det:∀ {p:List Nat} {u v w:V},cI H p u v->cI H p u w->v=w
 | [],_,_,_,h,h'=>h.trans h'.symm
 | _ :: _,_,_,_,⟨a,vs,x,h1,h2,h3,h4⟩,⟨b,us,y,g1,g2,g3,g4⟩=>by
   rw [h1] at g1
   cases g1
   have e:vs=us:=by
     rcases h2 with h2 | h2 <;> rcases g2 with g2 | g2 <;> rw [h2] at g2 <;> cases g2 <;> rfl
   subst e
   rw [h3] at g3
   cases g3
   exact h4.det g4
theorem cj.frame {G' H':Hp} (g:ai G G') {v:Option V} {bs:List Addr}:∀ {s:Sl},(∀ b ∈ bs,H' b=H b)->cj K G H v bs s->cj K G' H' v bs s
 | .un,_,h=>h
 | .d _,_,⟨h,u,e1,h2⟩=>⟨h,u,e1,h2.mono g⟩
 | .o _,e,⟨a,vs,h1,h2,h3,h4⟩=>⟨a,vs,h1,h2,by rw [e a (by rw [h1]; exact List.mem_cons_self ..)]; exact h3,h4.mono g⟩
 | .n _,e,⟨h0,u,h1,h2⟩=>⟨h0,u,h1,h2.frame g e⟩
 | .x E,e,⟨a,o,h1,h2,h3,h4⟩=>⟨a,o,h1,h2,by rw [e a (by rw [h1]; exact List.mem_cons_self ..)]; exact h3,E.mono g h4⟩
theorem qd {l r b0 b1:List Addr} {a:Addr} (h:(l++((a :: b0)++r)).Nodup) (h1:b1.Nodup) (hb:∀ b ∈ b1,b ∈ b0\/(b ∉ l/\b ≠ a/\b ∉ r)):(l++((a :: b1)++r)).Nodup:=by
 obtain ⟨z1,z2,z3⟩:=List.nodup_append.mp h
 rw [List.cons_append] at z2
 obtain ⟨z4,z5⟩:=List.nodup_cons.mp z2
 obtain ⟨z6,z7,z8⟩:=List.nodup_append.mp z5
 refine List.nodup_append.mpr ⟨z1,?_,λx hx y hy=>?_⟩
 · rw [List.cons_append]
   refine List.nodup_cons.mpr ⟨λz=>?_,List.nodup_append.mpr ⟨h1,z7,λx hx y hy=>?_⟩⟩
   · rcases List.mem_append.mp z with z | z
     · rcases hb a z with q | q
       · exact z4 (List.mem_append_left _ q)
       · exact q.2.1 rfl
     · exact z4 (List.mem_append_right _ z)
   · rcases hb x hx with q | q
     · exact z8 x q y hy
     · exact λe=>q.2.2 (e ▸ hy)
 · rw [List.cons_append] at hy
   rcases List.mem_cons.mp hy with q | q
   · exact z3 x hx y (by rw [q]; exact List.mem_append_left _ (List.mem_cons_self ..))
   · rcases List.mem_append.mp q with q | q
     · rcases hb y q with q | q
       · exact z3 x hx y (List.mem_append_left _ (List.mem_cons_of_mem _ q))
       · exact λe=>q.1 (e ▸ hx)
     · exact z3 x hx y (List.mem_append_right _ q)
theorem Sta.putN {A:Addr->Prop} {H₀:Hp} {τ:List Sl} {B:Nat->List Addr} {σ:L2.St} {i:Nat} {t:Nd} {p:List Nat} {xs:List Nd} (S:Sta K A H₀ τ B σ H) (hi:τ[i]?=some (.n t)) (hp:cM p t=some (.l xs)) :
   ∃ u a vs bs0,(σ[i]?).join=some u/\cI H p u (.ref a)/\H a=some (.lst vs)/\aI K (hd H (own A B)) H vs bs0 xs/\bs0.Nodup/\own A B a/\(∀ b ∈ bs0,own A B b/\b ≠ a) /\
     ∀ {H1:Hp} {vs':List V} {bs1:List Addr} {xs':List Nd},ai H H1->bs1.Nodup->(∀ b ∈ bs1,b ∈ bs0\/(H b=none/\∃ o,H1 b=some o))->aI K (hd (upd H1 a (.lst vs')) λb=>own A B b\/b ∈ bs1) (upd H1 a (.lst vs')) vs' bs1 xs' ->
       ∃ B',Sta K A H₀ (τ.set i (.n (b6 p t (.l xs')))) B' σ (upd H1 a (.lst vs')):=by
 obtain ⟨nd,u,eu,ok⟩:=S.sl i _ hi
 obtain ⟨v,l,m,r,pv,hbs,okc,back⟩:=ok.focus p hp
 cases okc with
 | @l a vs bs0 _ hH r0=>
   have mem:∀ b,b ∈ l\/b=a\/b ∈ bs0\/b ∈ r->b ∈ B i:=λb hb=>by
     rw [hbs]
     rcases hb with z | z | z | z
     · exact List.mem_append_left _ z
     · exact List.mem_append_right _ (by rw [z]; exact List.mem_append_left _ (List.mem_cons_self ..))
     · exact List.mem_append_right _ (List.mem_append_left _ (List.mem_cons_of_mem _ z))
     · exact List.mem_append_right _ (List.mem_append_right _ z)
   have nd':=nd
   rw [hbs] at nd'
   obtain ⟨n1,n2,n3⟩:=List.nodup_append.mp nd'
   rw [List.cons_append] at n2
   obtain ⟨n4,n5⟩:=List.nodup_cons.mp n2
   obtain ⟨n6,_,_⟩:=List.nodup_append.mp n5
   have ha:own A B a:=.inr ⟨i,mem a (.inr (.inl rfl))⟩
   refine ⟨u,a,vs,bs0,eu,pv,hH,r0,n6,ha,λb hb=>⟨.inr ⟨i,mem b (.inr (.inr (.inl hb)))⟩,λz=>n4 (z ▸ List.mem_append_left _ hb)⟩,λ{H1 vs' bs1 xs'} e h1 hb hx=>?_⟩
   have keep:∀ b o,b ≠ a->H b=some o->upd H1 a (.lst vs') b=H b:=λb o ne h=>by rw [av ne,e _ _ h,h]
   have la:∀ b,b ∈ l\/b ∈ r->b ≠ a:=λb hb z=>by
     rcases hb with q | q
     · exact n3 b q a (List.mem_append_left _ (List.mem_cons_self ..)) z
     · exact n4 (z ▸ List.mem_append_right _ q)
   have fresh:∀ b ∈ bs1,b ∈ bs0\/(b ∉ l/\b ≠ a/\b ∉ r):=λb hb1=>by
     rcases hb b hb1 with q | ⟨q,_⟩
     · exact .inl q
     · have no:∀ c,c ∈ B i->b ≠ c:=λc hc z=>by obtain ⟨o,hc⟩:=S.bd i c hc; rw [<- z,q] at hc; cases hc
       exact .inr ⟨λz=>no b (mem b (.inl z)) rfl,no a (mem a (.inr (.inl rfl))),λz=>no b (mem b (.inr (.inr (.inr z)))) rfl⟩
   have sub:∀ b,own A (upB B i (l++((a :: bs1)++r))) b->own A B b\/b ∈ bs1:=λb z=>by
     rcases z with z | ⟨j,z⟩
     · exact .inl (.inl z)
     · rcases bg z with ⟨_,z⟩ | ⟨_,z⟩
       · rcases List.mem_append.mp z with z | z
         · exact .inl (.inr ⟨i,mem b (.inl z)⟩)
         · rw [List.cons_append] at z
           rcases List.mem_cons.mp z with z | z
           · exact .inl (z ▸ ha)
           · rcases List.mem_append.mp z with z | z
             · exact .inr z
             · exact .inl (.inr ⟨i,mem b (.inr (.inr (.inr z)))⟩)
       · exact .inl (.inr ⟨j,z⟩)
   have sm:ai (hd H (own A B)) (hd (upd H1 a (.lst vs')) (own A (upB B i (l++((a :: bs1)++r))))):=λb o z=>by
     obtain ⟨z1,z2⟩:=ao.mp z
     refine ao.mpr ⟨λy=>?_,by rw [keep b o (λq=>z1 (q ▸ ha)) z2]; exact z2⟩
     rcases sub b y with y | y
     · exact z1 y
     · rcases hb b y with q | ⟨q,_⟩
       · exact z1 (.inr ⟨i,mem b (.inr (.inr (.inl q)))⟩)
       · rw [q] at z2; cases z2
   have hs:ai H₀ (upd H1 a (.lst vs')):=λb o z=>by
     have f0:=S.fr i a (mem a (.inr (.inl rfl)))
     rw [av (λq=>by rw [q,f0] at z; cases z)]
     exact e _ _ (S.same _ _ z)
   refine ⟨upB B i (l++((a :: bs1)++r)),hs,by rw [List.length_set,S.len],λj s hj=>?_,λj b z=>?_,λj k b z1 z2=>?_,S.ad,λj b z=>?_⟩
   · by_cases ej:j=i
     · subst ej
       have hl:=(List.getElem?_eq_some_iff.mp hi).1
       rw [List.getElem?_set_self hl] at hj
       cases hj
       unfold upB
       rw [if_pos rfl]
       refine ⟨qd nd' h1 fresh,u,eu,back sm (λb hb=>?_) (.l aJ (hx.frame (az (ai.refl _) sub) λ_ _=>rfl))⟩
       obtain ⟨o,q⟩:=S.bd j b (mem b (hb.elim .inl λz=>.inr (.inr (.inr z))))
       exact keep b o (la b hb) q
     · rw [List.getElem?_set_ne (λz=>ej z.symm)] at hj
       unfold upB
       rw [if_neg ej]
       refine (S.sl j s hj).frame sm λb hb=>?_
       obtain ⟨o,q⟩:=S.bd j b hb
       exact keep b o (λz=>ej (S.uq j i a (z ▸ hb) (mem a (.inr (.inl rfl))))) q
   · rcases bg z with ⟨_,z⟩ | ⟨_,z⟩
     · rcases sub b (.inr ⟨i,by unfold upB; rw [if_pos rfl]; exact z⟩) with y | y
       · rcases List.mem_append.mp z with z | z
         · exact S.fr i b (mem b (.inl z))
         · rw [List.cons_append] at z
           rcases List.mem_cons.mp z with z | z
           · exact S.fr i b (mem b (.inr (.inl z)))
           · rcases List.mem_append.mp z with z | z
             · rcases hb b z with q | ⟨q,_⟩
               · exact S.fr i b (mem b (.inr (.inr (.inl q))))
               · exact S.same.free q
             · exact S.fr i b (mem b (.inr (.inr (.inr z))))
       · rcases hb b y with q | ⟨q,_⟩
         · exact S.fr i b (mem b (.inr (.inr (.inl q))))
         · exact S.same.free q
     · exact S.fr j b z
   · have inB:∀ {c},c ∈ l++((a :: bs1)++r)->c ∈ B i\/H c=none:=λ{c} z=>by
       rcases List.mem_append.mp z with z | z
       · exact .inl (mem c (.inl z))
       · rw [List.cons_append] at z
         rcases List.mem_cons.mp z with z | z
         · exact .inl (mem c (.inr (.inl z)))
         · rcases List.mem_append.mp z with z | z
           · rcases hb c z with q | ⟨q,_⟩
             · exact .inl (mem c (.inr (.inr (.inl q))))
             · exact .inr q
           · exact .inl (mem c (.inr (.inr (.inr z))))
     have cross:∀ {j},j ≠ i->b ∈ B j->b ∈ l++((a :: bs1)++r)->False:=λ{j} nj y1 y2=>by
       rcases inB y2 with q | q
       · exact nj (S.uq j i b y1 q)
       · obtain ⟨o,w⟩:=S.bd j b y1; rw [q] at w; cases w
     rcases bg z1 with ⟨e1,y1⟩ | ⟨e1,y1⟩ <;> rcases bg z2 with ⟨e2,y2⟩ | ⟨e2,y2⟩
     · exact e1.trans e2.symm
     · exact (cross e2 y2 y1).elim
     · exact (cross e1 y1 y2).elim
     · exact S.uq j k b y1 y2
   · rcases bg z with ⟨_,z⟩ | ⟨_,z⟩
     · by_cases e':b=a
       · exact ⟨_,by rw [e']; exact aJ⟩
       · rw [av e']
         have old:b ∈ B i->∃ o,H1 b=some o:=λq=>let ⟨o,w⟩:=S.bd i b q; ⟨o,e _ _ w⟩
         rcases List.mem_append.mp z with z | z
         · exact old (mem b (.inl z))
         · rw [List.cons_append] at z
           rcases List.mem_cons.mp z with z | z
           · exact absurd z e'
           · rcases List.mem_append.mp z with z | z
             · rcases hb b z with q | ⟨_,q⟩
               · exact old (mem b (.inr (.inr (.inl q))))
               · exact q
             · exact old (mem b (.inr (.inr (.inr z))))
     · by_cases e':b=a
       · exact ⟨_,by rw [e']; exact aJ⟩
       · rw [av e']
         obtain ⟨o,w⟩:=S.bd j b z
         exact ⟨o,e _ _ w⟩
end
noncomputable def dP (K:PySem.W.Frag) (τ:List Sl) (i:Nat) (p:List Nat):TE:=λσ H Q=>∃ A H₀ B,Sta K A H₀ τ B σ H/\∀ u v H',(σ[i]?).join=some u->ai H H'->cI H' p u v->Q v H'
noncomputable def sO:Sl->Option Nd
 | .un=>none
 | .d x=>some (.d x)
 | .o xs=>some (.l (xs.map .d))
 | .n t=>some t
 | .x _=>none
section
variable {K:PySem.W.Frag} {G H:Hp}
theorem nC:∀ {vs:List V} {xs:List D},aq K G vs xs->aI K G H vs [] (xs.map .d)
 | _,_,.nil=>.nil
 | _,_,.cons h r=>.cons (b1:=[]) (b2:=[]) (.d h) (nC r)
theorem cj.nd {v:V} {bs:List Addr} {s:Sl} {c:Nd} (h:cj K G H (some v) bs s) (e:sO s=some c):bA K G H v bs c/\bs.Nodup:=by
 cases s with
 | un=>cases e
 | d x=>cases e; obtain ⟨rfl,u,eu,d⟩:=h; cases eu; exact ⟨.d d,List.nodup_nil⟩
 | o xs=>cases e; obtain ⟨a,vs,rfl,e2,h3,h4⟩:=h; cases e2; exact ⟨.l h3 (nC h4),by simp⟩
 | n t=>cases e; obtain ⟨h0,u,eu,h2⟩:=h; cases eu; exact ⟨h2,h0⟩
 | x E=>cases e
theorem aI.snoc {v:V} {c:Nd} {b2:List Addr} (h:bA K G H v b2 c):∀ {vs:List V} {bs:List Addr} {xs:List Nd},aI K G H vs bs xs->aI K G H (vs++[v]) (bs++b2) (xs++[c])
 | _,_,_,.nil=>by have:=aI.cons h .nil; rw [List.append_nil] at this; exact this
 | _,_,_,.cons h1 r=>by rw [List.append_assoc]; exact .cons h1 (aI.snoc h r)
theorem Sta.nd {A:Addr->Prop} {H₀:Hp} {τ:List Sl} {B:Nat->List Addr} {σ:L2.St} (S:Sta K A H₀ τ B σ H) {i:Nat} {s:Sl} {c:Nd} (hi:τ[i]?=some s) (hc:sO s=some c):Sta K A H₀ (τ.set i (.n c)) (upB B i (B i)) σ H:=
 S.less (λ_ z=>z) λG' g _=>by
   have q:=S.sl i s hi
   obtain ⟨u,e⟩:∃ u,(σ[i]?).join=some u:=by
     cases s with
     | un=>cases hc
     | d x=>obtain ⟨_,u,e,_⟩:=q; exact ⟨u,e⟩
     | o xs=>obtain ⟨_,_,_,e,_⟩:=q; exact ⟨_,e⟩
     | n t=>obtain ⟨_,u,e,_⟩:=q; exact ⟨u,e⟩
     | x E=>cases hc
   rw [e] at q ⊢
   obtain ⟨q1,q2⟩:=q.nd hc
   exact ⟨q2,u,rfl,q1.frame g λ_ _=>rfl⟩
end
section
variable {X:Cx} {C:Bool} {τ:List Sl} {x y z:D} {a b e o ix:Expr} {es:List Expr} {pos p q:Pos} {k:Nat} {s:Sl} {N:Po} {rest:List Stmt} {i:Nat} {t c:Nd} {pt:List Nat} {xs:List Nd} {j:Int} {m:Nat}
theorem CH (i:Nat) {s:Sl} {c:Nd} (h:PSs X rest (dS X.K (τ.set i (.n c)) N)) (hi:τ[i]?=some s:=by rfl) (hc:sO s=some c:=by rfl):PSs X rest (dS X.K τ N):=kS h λD σ H ⟨A,H₀,B,S,Me⟩=>⟨A,H₀,_,S.nd hi hc,Me⟩
theorem fN (i:Nat) {n:Str} {t:Nd} (h:τ[i]?=some (.n t):=by rfl) (hN:X.N[i]?=some n:=by rfl) (hv:Vis X.env.scope n:=by first | exact Or.inl rfl | exact Or.inr (Or.inl rfl) | exact Or.inr (Or.inr rfl))
   (hd:(n == ("__debug__" : Str))=false:=by decide) (hcd:(n == ("__classdict__" : Str))=false:=by decide):PE X (.Name n pos) (dP X.K τ i []):=peW (bT hN hv hd hcd) λσ H Q ⟨A,H₀,B,S,k⟩=>by
 obtain ⟨_,u,e,_⟩:=S.sl i _ h
 exact ⟨u,slot_of e,k u u H e (ai.refl _) rfl⟩
theorem Sta.at {K:PySem.W.Frag} {A:Addr->Prop} {H₀ H:Hp} {τ:List Sl} {B:Nat->List Addr} {σ:L2.St} (S:Sta K A H₀ τ B σ H) (hi:τ[i]?=some (.n t)) (hp:cM pt t=some c):∃ u v m,(σ[i]?).join=some u/\cI H pt u v/\bA K (hd H (own A B)) H v m c/\∀ b ∈ m,b ∈ B i:=by
 obtain ⟨_,u,e,ok⟩:=S.sl i _ hi
 obtain ⟨v,l,m,r,h1,h2,h3,_⟩:=ok.focus pt hp
 exact ⟨u,v,m,e,h1,h3,λb hb=>by rw [h2]; exact List.mem_append_right _ (List.mem_append_left _ hb)⟩
theorem rS {K:PySem.W.Frag} {G H:Hp} {vs:List V} {bs:List Addr} {m:Nat} (r:aI K G H vs bs xs) (hm:m < xs.length):∃ v,vs[m]?=some v:=⟨vs[m]'(by rw [r.length]; exact hm),List.getElem?_eq_getElem _⟩
theorem ue {n m:Nat} {j:Int} (h:ixN n j=some m):m < n:=by
 unfold ixN at h
 split at h
 · split at h
   · cases h; omega
   · cases h
 · split at h
   · cases h; omega
   · cases h
theorem vZ (ha:PE X a (dP X.K τ i pt)) (hb:PE X b (dE X.K false τ (.d (.int j)))) (hi:τ[i]?=some (.n t)) (hp:cM pt t=some (.l xs)) (hj:ixN xs.length j=some m) (hs:gw b:=by exact λ_ _=>rfl):PE X (.Subscript a b pos) (dP X.K τ i (pt++[m])):=
 peW (rR mL ha hb hs) λσ H Q ⟨A,H₀,B,S,k⟩=>⟨A,H₀,B,S,λu v H1 eu e1 pv=>aQ (S.mono e1) λw H2 e2 d2=>by
   cases d2
   obtain ⟨u',v',m',eu',pv',ok,_⟩:=((S.mono e1).mono e2).at hi hp
   rw [eu] at eu'
   cases eu'
   obtain rfl:=(pv.mono e2).det pv'
   cases ok with
   | @l ad vs _ _ hH r=>
     obtain ⟨x,hx⟩:=rS r (ue hj)
     exact ⟨ad,vs,j,x,rfl,rfl,SqL.of hH,by unfold atI; rw [r.length,hj]; exact hx,k u x H2 eu (e1.trans e2) (pv'.snoc (.inl hH) hx)⟩⟩
theorem uQ (h:PE X e (dP X.K τ i pt)) (hi:τ[i]?=some (.n t)) (hp:cM pt t=some c):PE X e (dE X.K false τ (.d (ndD c))):=peW h λσ H Q q=>by
 obtain ⟨A,H₀,B,S,k⟩:=fU q
 refine ⟨A,H₀,B,S,λu v H1 eu e1 pv=>?_⟩
 obtain ⟨u',v',m',eu',pv',ok,hm⟩:=(S.mono e1).at hi hp
 rw [eu] at eu'
 cases eu'
 obtain rfl:=pv.det pv'
 exact k v H1 e1 (ok.den (az (ai.refl _) λ_ z=>.inl z) λb hb o ho=>ao.mpr ⟨λz=>(by obtain ⟨_,w⟩:=S.ad b z; rw [S.fr i b (hm b hb)] at w; cases w),ho⟩)
theorem za {ap cp:Pos} (ho:PE X o (dP X.K τ i pt)) (he:PE X e (dE X.K true τ s)) (hi:τ[i]?=some (.n t)) (hp:cM pt t=some (.l xs)) (hc:sO s=some c) (hl:xs.length < 1000000) (hr:PSs X rest (dS X.K (τ.set i (.n (b6 pt t (.l (xs++[c]))))) N))
   (hfew:((backTo cp (starEach [e] X.env)).all (λx=>!x.1) && (backToKw cp (keywordEach [] X.env)).all (λx=>x.1.isSome) && decide (([e]:List Expr).length + ([]:List Keyword).length + (if ([]:List Keyword).isEmpty then 0 else 1) < 30))=true:=by rfl)
   (hline:(ap.endLine == cp.line)=true:=by rfl) (hst:starEach [e] X.env=(false,eval e X.env) :: starEach [] X.env:=by rfl) (hpl:(backTo cp (starEach [] X.env)).any (·.1)=false:=by rfl)
   (hs:swapsWith (.Call (.Attribute o "append" ap) [e] [] cp) none pos.line X.env=pure false:=by rfl) (hbase:attributeBase o "append" X.env (eval o X.env)=eval o X.env:=by rfl) :
   PSs X (.Expr (.Call (.Attribute o "append" ap) [e] [] cp) pos :: rest) (dS X.K τ N):=
 a7 (M:=(·=τ.set i (.n (b6 pt t (.l (xs++[c])))))) (psW (gu (rQ PySem.F.plainAttrs_list PySem.F.slot_list_append PySem.F.type_list_append gy ho (bF he dC hst) hbase hfew hline hst hpl) hs) λD σ H ⟨A,H₀,B,S,Me⟩=>by
   refine ⟨A,H₀,B,S,λu v H1 eu e1 pv=>?_⟩
   have S1:=S.mono e1
   obtain ⟨u',l,vs,bs0,eu',pv',hH,r0,nd0,hal,hown,put⟩:=S1.putN hi hp
   rw [eu] at eu'
   cases eu'
   obtain rfl:=pv.det pv'
   refine ⟨.inl ⟨rfl,_,SqL.of hH⟩,A,H₀,B,S1,λw H2 bs e2 hf hw=>⟨l,vs,w,rfl,rfl,e2 _ _ hH,by rw [r0.length]; exact Nat.lt_trans hl (by decide),?_⟩⟩
   obtain ⟨nw,ndw⟩:=hw.nd hc
   have off:∀ b ∈ bs,b ≠ l:=λb hb z=>by rw [z] at hb; rw [(hf l hb).1] at hH; cases hH
   have sm:ai (hd H2 λb=>own A B b\/b ∈ bs) (hd (upd H2 l (.lst (vs++[w]))) λb=>own A B b\/b ∈ bs0++bs):=λb o z=>by
     obtain ⟨z1,z2⟩:=ao.mp z
     refine ao.mpr ⟨λy=>z1 ?_,by rw [av (λy:b=l=>z1 (.inl (by rw [y]; exact hal)))]; exact z2⟩
     rcases y with y | y
     · exact .inl y
     · exact (List.mem_append.mp y).elim (λz=>.inl (hown b z).1) .inr
   have sm0:ai (hd H1 (own A B)) (hd (upd H2 l (.lst (vs++[w]))) λb=>own A B b\/b ∈ bs0++bs):=λb o z=>by
     obtain ⟨z1,z2⟩:=ao.mp z
     refine ao.mpr ⟨λy=>?_,by rw [av (λy:b=l=>z1 (by rw [y]; exact hal))]; exact e2 _ _ z2⟩
     rcases y with y | y
     · exact z1 y
     · rcases List.mem_append.mp y with y | y
       · exact z1 (hown b y).1
       · rw [(hf b y).1] at z2; cases z2
   obtain ⟨B',S'⟩:=put (H1:=H2) (vs':=vs++[w]) (bs1:=bs0++bs) (xs':=xs++[c]) e2 (List.nodup_append.mpr ⟨nd0,ndw,λx hx y hy z=>by
       obtain ⟨o,q⟩:=r0.some_of x hx
       rw [z,(hf y hy).1] at q; cases q⟩)
     (λb hb=>(List.mem_append.mp hb).elim .inl λz=>.inr (hf b z))
     (aI.snoc (nw.frame sm λb hb=>av (off b hb)) (r0.frame sm0 λb hb=>by
       obtain ⟨o,q⟩:=r0.some_of b hb
       rw [av (hown b hb).2,e2 _ _ q,q]))
   exact Me.nx _ B' _ _ rfl S') λ_ e=>e ▸ hr
end
end Hy
namespace Ev
open PySem PySem.Spec PyProof.Rows L2
noncomputable def bad:Str:=⟨#[0x110000]⟩
mutual
noncomputable def eqD:D->D->Bool
 | .non,.non=>true
 | .bl a,.bl b=>a == b
 | .bl a,.int j=>(if a then 1 else 0) == j
 | .int i,.bl b=>i == (if b then 1 else 0)
 | .int a,.int b=>a == b
 | .str a,.str b=>a == b
 | .tup xs,.tup ys=>ju xs ys
 | .lst xs,.lst ys=>ju xs ys
 | .box _,.box _=>true
 | .box _,.str b=>bad == b
 | .str a,.box _=>a == bad
 | .box _,.non | .box _,.bl _ | .box _,.int _ | .box _,.tup _ | .box _,.lst _=>false
 | .non,.box _ | .bl _,.box _ | .int _,.box _ | .tup _,.box _ | .lst _,.box _=>false
 | .non,.bl _ | .non,.int _ | .non,.str _ | .non,.tup _ | .non,.lst _=>false
 | .bl _,.non | .bl _,.str _ | .bl _,.tup _ | .bl _,.lst _=>false
 | .int _,.non | .int _,.str _ | .int _,.tup _ | .int _,.lst _=>false
 | .str _,.non | .str _,.bl _ | .str _,.int _ | .str _,.tup _ | .str _,.lst _=>false
 | .tup _,.non | .tup _,.bl _ | .tup _,.int _ | .tup _,.str _ | .tup _,.lst _=>false
 | .lst _,.non | .lst _,.bl _ | .lst _,.int _ | .lst _,.str _ | .lst _,.tup _=>false
noncomputable def ju:List D->List D->Bool
 | [],[]=>true
 | x :: xs,y :: ys=>eqD x y && ju xs ys
 | [],_ :: _=>false
 | _ :: _,[]=>false
end
mutual
noncomputable def toP:D->PyData
 | .non=>.none
 | .bl b=>.bool b
 | .int i=>.int i
 | .str x=>.str x
 | .tup xs=>.tuple (gz xs)
 | .lst xs=>.list (gz xs)
 | .box _=>.str bad
noncomputable def gz:List D->List PyData
 | []=>[]
 | x :: xs=>toP x :: gz xs
end
mutual
noncomputable def cln:D->Bool
 | .str x=>PyData.strOk x
 | .tup xs=>eG xs
 | .lst xs=>eG xs
 | .box _=>false
 | .non | .bl _ | .int _=>true
noncomputable def eG:List D->Bool
 | []=>true
 | x :: xs=>cln x && eG xs
end
mutual
noncomputable def dep:D->Nat
 | .tup xs=>fx xs + 1
 | .lst xs=>fx xs + 1
 | .non | .bl _ | .int _ | .str _ | .box _=>0
noncomputable def fx:List D->Nat
 | []=>0
 | x :: xs=>max (dep x) (fx xs)
end
noncomputable def da (x:D):Prop:=cln x=true/\dep x<=64
noncomputable instance (x:D):Decidable (da x):=inferInstanceAs (Decidable (_/\_))
mutual
theorem gn:∀ x y:D,PyData.eqv (toP x) (toP y)=eqD x y
 | .non,y=>by cases y <;> simp [toP,PyData.eqv,eqD]
 | .bl a,y=>by cases y <;> simp [toP,PyData.eqv,eqD]
 | .int a,y=>by cases y <;> simp [toP,PyData.eqv,eqD]
 | .str a,y=>by cases y <;> simp [toP,PyData.eqv,eqD]
 | .tup xs,.tup ys=>by simp only [toP,PyData.eqv,eqD]; exact jY xs ys
 | .lst xs,.lst ys=>by simp only [toP,PyData.eqv,eqD]; exact jY xs ys
 | .tup xs,.non=>by simp [toP,PyData.eqv,eqD]
 | .tup xs,.bl _=>by simp [toP,PyData.eqv,eqD]
 | .tup xs,.int _=>by simp [toP,PyData.eqv,eqD]
 | .tup xs,.str _=>by simp [toP,PyData.eqv,eqD]
 | .tup xs,.lst _=>by simp [toP,PyData.eqv,eqD]
 | .lst xs,.non=>by simp [toP,PyData.eqv,eqD]
 | .lst xs,.bl _=>by simp [toP,PyData.eqv,eqD]
 | .lst xs,.int _=>by simp [toP,PyData.eqv,eqD]
 | .lst xs,.str _=>by simp [toP,PyData.eqv,eqD]
 | .lst xs,.tup _=>by simp [toP,PyData.eqv,eqD]
 | .tup xs,.box _=>by simp [toP,PyData.eqv,eqD]
 | .lst xs,.box _=>by simp [toP,PyData.eqv,eqD]
 | .box _,y=>by cases y <;> simp [toP,PyData.eqv,eqD]
theorem jY:∀ xs ys:List D,PyData.eqvAll (gz xs) (gz ys)=ju xs ys
 | [],[]=>by simp [gz,PyData.eqvAll,ju]
 | [],_ :: _=>by simp [gz,PyData.eqvAll,ju]
 | _ :: _,[]=>by simp [gz,PyData.eqvAll,ju]
 | x :: xs,y :: ys=>by simp only [gz,PyData.eqvAll,ju]; rw [gn x y,jY xs ys]
end
mutual
theorem il:∀ x:D,(toP x).canLay0=cln x
 | .non=>by simp [toP,PyData.canLay0,cln]
 | .bl _=>by simp [toP,PyData.canLay0,cln]
 | .int _=>by simp [toP,PyData.canLay0,cln]
 | .str _=>by simp [toP,PyData.canLay0,cln]
 | .tup xs=>by simp only [toP,PyData.canLay0,cln]; exact jJ xs
 | .lst xs=>by simp only [toP,PyData.canLay0,cln]; exact jJ xs
 | .box _=>by simp only [toP,PyData.canLay0,cln]; decide +kernel
theorem jJ:∀ xs:List D,PyData.canLayAll0 (gz xs)=eG xs
 | []=>by simp [gz,PyData.canLayAll0,eG]
 | x :: xs=>by simp only [gz,PyData.canLayAll0,eG]; rw [il x,jJ xs]
end
mutual
theorem jz:∀ x:D,(toP x).depth=dep x
 | .non=>by simp [toP,PyData.depth,dep]
 | .bl _=>by simp [toP,PyData.depth,dep]
 | .int _=>by simp [toP,PyData.depth,dep]
 | .str _=>by simp [toP,PyData.depth,dep]
 | .tup xs=>by simp only [toP,PyData.depth,dep]; rw [jI xs]
 | .lst xs=>by simp only [toP,PyData.depth,dep]; rw [jI xs]
 | .box _=>by simp [toP,PyData.depth,dep]
theorem jI:∀ xs:List D,PyData.depthAll (gz xs)=fx xs
 | []=>by simp [gz,PyData.depthAll,fx]
 | x :: xs=>by simp only [gz,PyData.depthAll,fx]; rw [jz x,jI xs]
end
theorem c8 {x:D} (h:da x):SeqAt.shaped (toP x)=true:=by
 unfold SeqAt.shaped
 rw [il,jz,h.1,Bool.true_and]
 exact decide_eq_true h.2
section
variable {X:Cx} {pins:List (Addr × Obj)} {σ:L2.St} {H G:Hp} {s:Shared}
mutual
theorem b8 (I:Inv X pins σ H s) (e:ai G H):∀ {v:V} {d:D} {u:Value},Den X.K G v d->RelV v u->cln d=true->∃ as,Reads s.heap u (toP d) as
 | _,_,_,.non,r,_=>by cases r; exact ⟨_,.none⟩
 | _,_,_,.bl,r,_=>by cases r; exact ⟨_,.bool _⟩
 | _,_,_,.int,r,_=>by obtain ⟨t,rfl⟩:=r; exact ⟨_,.int _ _⟩
 | _,_,_,.str,r,_=>by obtain ⟨t,rfl⟩:=r; exact ⟨_,.str _ _⟩
 | _,_,_,.tup h q,r,c=>by
   cases r
   obtain ⟨its,rv,⟨o,h1,h2,n,h3⟩,_⟩:=I.tuple (ba e h)
   obtain ⟨as,z⟩:=iW I e q rv (by rw [cln] at c; exact c)
   exact ⟨_,.tuple h1 h2 h3 (by simpa using z)⟩
 | _,_,_,.lst h q,r,c=>by
   cases r
   obtain ⟨its,rv,⟨o,n,h1,h2,_,h3⟩,_⟩:=I.list (aM e h)
   obtain ⟨as,z⟩:=iW I e q rv (by rw [cln] at c; exact c)
   exact ⟨_,.list h1 h2 h3 (by simpa using z)⟩
 | _,_,_,.box _,_,c=>by rw [cln] at c; cases c
theorem iW (I:Inv X pins σ H s) (e:ai G H):∀ {vs:List V} {ds:List D} {us:List Value},aq X.K G vs ds->Vals vs us->eG ds=true->∃ as,ReadsAll s.heap us (gz ds) as
 | _,_,_,.nil,.nil,_=>⟨_,.nil⟩
 | _,_,_,.cons h q,.cons r rs,c=>by
   rw [eG,Bool.and_eq_true] at c
   obtain ⟨as,z⟩:=b8 I e h r c.1
   obtain ⟨bs,z'⟩:=iW I e q rs c.2
   exact ⟨_,.cons z z'⟩
end
end
end Ev
namespace Hy
open PySem PySem.Spec PyProof.Rows L2
open Ev (D Den aq ak ba aM Itz zO pz eqD da b8 c8 gn)
section
variable {X:Cx} {C:Bool} {τ:List Sl} {x y z:D} {a b e c tg it elt:Expr} {es ifs:List Expr} {pos p q:Pos} {k:Nat} {s:Sl} {N:Po} {rest body:List Stmt} {ds xs ys:List D} {i j:Int} {scope:Scope}
theorem rZ (M:Nat->Bool->List Sl->Prop) (B:Bk X k) (h0:∃ n t,M n t τ) (hc:∀ n t τ',M n t τ'->PT X c (dT X.K τ' t)) (hb:∀ n τ',M n true τ'->PSs X body (dS X.K τ' { N with nx:=λτ2=>∃ m t,m < n/\M m t τ2,ct:=λτ2=>∃ m t,m < n/\M m t τ2,bk:=λ_=>False }))
   (hr:∀ n τ',M n false τ'->PSs X rest (dS X.K τ' N)):PSs X (.While c body [] pos :: rest) (dS X.K τ N):=by
 have hc':PT X c λσ H Q=>∃ n t τ',M n t τ'/\dT X.K τ' t σ H Q:=λpins s σ H Q I ⟨n,t,τ',m,q⟩=>hc n t τ' m pins s σ H Q I q
 have hb':PSs X body λD σ H=>∃ n τ',M n true τ'/\dS X.K τ' { N with nx:=λτ2=>∃ m t,m < n/\M m t τ2,ct:=λτ2=>∃ m t,m < n/\M m t τ2,bk:=λ_=>False } D σ H:=λpins s σ H D I ⟨n,τ',m,q⟩=>hb n τ' m pins s σ H D I q
 refine a7 (M:=λτ'=>∃ n,M n false τ') (psW (ub B.po hc' hb') λD σ H ⟨A,H₀,B,S,Me⟩=>⟨λm σ' H'=>∃ t τ' B',M m t τ'/\Sta X.K A H₀ τ' B' σ' H',?_,?_⟩) λτ' h=>let ⟨n,h⟩:=h; hr n τ' h
 · obtain ⟨n,t,h0⟩:=h0
   exact ⟨n,t,τ,B,h0,S⟩
 rintro m σ' H' ⟨t,τ',B',hM,S'⟩
 refine ⟨m,t,τ',hM,A,H₀,B',S',λH1 e1=>?_⟩
 cases t with
 | false=>exact ur (Me.nx τ' B' σ' H1 ⟨m,hM⟩ (S'.mono e1))
 | true=>
   refine tG ⟨λσ2 H2=>∃ τ2 B2,(∃ n t,n < m/\M n t τ2)/\Sta X.K A H₀ τ2 B2 σ2 H2,λσ2 H2 ⟨τ2,B2,⟨n,t,l,q⟩,S2⟩=>⟨n,l,t,τ2,B2,q,S2⟩,m,τ',hM,A,H₀,B',S'.mono e1,?_⟩
   exact ⟨λτ2 B2 σ2 H2 m S2=>⟨τ2,B2,m,S2⟩,λ_ _ _ _ z=>z.elim,λτ2 B2 σ2 H2 m S2=>⟨τ2,B2,m,S2⟩,Me.rt,Me.xc⟩
noncomputable def jt (xs ys:List D):List D:=(xs.zip ys).map λp=>.tup [p.1,p.2]
theorem eo:(jt xs ys).length=min xs.length ys.length:=by simp [jt]
theorem wD (i:Nat) (h:i < (jt xs ys).length):(jt xs ys)[i]=.tup [xs.getD i .non,ys.getD i .non]:=by
 rw [eo] at h
 simp [jt,show i < xs.length by omega,show i < ys.length by omega]
theorem zh {K:PySem.W.Frag} {G:Hp} {a b:Addr} {vs ws:List V} (h:SqL K G a vs) (r:aq K G vs xs) (h':SqL K G b ws) (r':aq K G ws ys):Yl K (Itz K a b) (jt xs ys) G:=by
 intro H sg
 have hl:=r.length
 have hl':=r'.length
 refine ⟨λi hi=>⟨vs,ws,aM sg h,aM sg h',by rw [eo] at hi; omega⟩,λi hi=>?_⟩
 have hi':=hi
 rw [eo] at hi'
 obtain ⟨v,hv,dv⟩:=r.get (List.getElem?_eq_getElem (show i < xs.length by omega))
 obtain ⟨w,hw,dw⟩:=r'.get (List.getElem?_eq_getElem (show i < ys.length by omega))
 refine ⟨⟨vs,ws,v,w,aM sg h,aM sg h',hv,hw⟩,λy H' ⟨p,x1,x2,hp,e0,e1,e2,e3⟩=>?_⟩
 subst e0 e1
 have ex:x1=v:=by have:=e2 vs (aM sg h); rw [hv] at this; exact (Option.some.inj this).symm
 have ey:x2=w:=by have:=e3 ws (aM sg h'); rw [hw] at this; exact (Option.some.inj this).symm
 subst ex ey
 refine ⟨ak hp _,λM hM sv=>?_⟩
 rw [wD,show xs.getD i .non=xs[i] by simp [show i < xs.length by omega],show ys.getD i .non=ys[i] by simp [show i < ys.length by omega]]
 have up:=sv.trans (az (ak hp (.tup [x1,x2])) λ_ z=>z)
 exact .tup (SqT.of (qC hM hp)) (.cons (dv.mono up) (.cons (dw.mono up) .nil))
theorem yI {ts:List Expr} {m:Nat} {tp:Pos} (B:Bk X k) (h:PE X a (dE X.K true τ (.d (.lst xs)))) (h':PE X b (dE X.K true τ (.d (.lst ys)))) (hg:Gl X "zip":=by rfl) (hs:starEach [a,b] X.env=(false,eval a X.env) :: starEach [b] X.env:=by rfl) (hs2:starEach [b] X.env=[(false,eval b X.env)]:=by rfl) :
   PI X (.Tuple ts m tp) (.Call (.Name "zip" p) [a,b] [] pos) (dI X.K τ (jt xs ys)):=
 piW (pz B.calm hg (B.blt _ (by decide)) (ae h (ae h' ag hs2) hs) hs hs2) λσ H R ⟨A,H₀,B,S,k⟩=>eg S λvs H1 e1 d1=>by
   cases d1 with
   | cons d r=>
     cases r with
     | cons d' r=>
       cases r
       cases d with
       | lst h r=>cases d' with
         | lst h' r'=>exact ⟨_,_,rfl,⟨_,aM aW h⟩,⟨_,aM aW h'⟩,k _ H1 e1 (zh h r h' r')⟩
theorem yT (hu:X.A.units + 64 < cLine):OpR X (compareOp .Eq) (λx y H Q=>∃ G d e,ai G H/\Den X.K G x d/\Den X.K G y e/\da d/\da e/\Q (.bl (eqD d e)) H):=by
 intro pins s σ H x y v u Q I rx ry ⟨G,d,e,sg,dx,dy,o1,o2,q⟩
 obtain ⟨as,r1⟩:=b8 I sg dx rx o1.1
 obtain ⟨bs,r2⟩:=b8 I sg dy ry o2.1
 exact eq_dataH r1 r2 (c8 o1) (c8 o2) hu ⟨.bl _,H,I,by rw [gn]; rfl,q⟩
theorem Ak (hu:X.A.units + 64 < cLine):OpR X (compareOp .NotEq) (λx y H Q=>∃ G d e,ai G H/\Den X.K G x d/\Den X.K G y e/\da d/\da e/\Q (.bl (!eqD d e)) H):=by
 intro pins s σ H x y v u Q I rx ry ⟨G,d,e,sg,dx,dy,o1,o2,q⟩
 obtain ⟨as,r1⟩:=b8 I sg dx rx o1.1
 obtain ⟨bs,r2⟩:=b8 I sg dy ry o2.1
 exact ne_dataH r1 r2 (c8 o1) (c8 o2) hu ⟨.bl _,H,I,by rw [gn]; rfl,q⟩
theorem vA (B:Bk X k) (h1:da x) (h2:da y):cg X (compareOp .Eq) x y (.bl (eqD x y)):=⟨_,yT B.room.units,λM v w H Q _ d1 d2 q=>⟨_,x,y,aW,d1,d2,h1,h2,q _ H (ai.refl _) .bl⟩⟩
theorem yP (B:Bk X k) (h1:da x) (h2:da y):cg X (compareOp .NotEq) x y (.bl (!eqD x y)):=⟨_,Ak B.room.units,λM v w H Q _ d1 d2 q=>⟨_,x,y,aW,d1,d2,h1,h2,q _ H (ai.refl _) .bl⟩⟩
variable {u v:Str}
theorem BO:cg X (compareOp .Eq) (.str u) (.str v) (.bl (decide (u=v))):=⟨_,yE,λ_ v' w H Q _ d1 d2 k=>by
 cases d1
 cases d2
 exact ⟨rfl,by rw [show decide (V.str u=V.str v)=decide (u=v) by simp]; exact k _ H (ai.refl _) .bl⟩⟩
theorem ym:cg X (compareOp .NotEq) (.str u) (.str v) (.bl (!decide (u=v))):=⟨_,yv,λ_ v' w H Q _ d1 d2 k=>by
 cases d1
 cases d2
 exact ⟨rfl,by rw [show decide (V.str u=V.str v)=decide (u=v) by simp]; exact k _ H (ai.refl _) .bl⟩⟩
theorem fG:∀ {bs:List Bool} {us:List Value},Vals (bs.map V.bl) us->us=bs.map Value.bool
 | [],_,h=>by cases h; rfl
 | b :: bs,_,h=>by
   cases h with
   | cons rv rs=>rw [fG rs,show _=Value.bool b from rv]; rfl
theorem tO (hc:X.calm=true):fF X (.builtin "all") (λxs H Q=>∃ (p:Addr) (bs:List Bool),xs=[.ref p]/\SqL X.K H p (bs.map V.bl)/\Q (.bl (bs.all id)) H):=by
 intro pins s σ H xs us Q I r q
 obtain ⟨p,bs,rfl,h,q⟩:=q
 obtain ⟨u,rfl,ru⟩:∃ u,us=[u]/\RelV (.ref p) u:=by
   cases r with
   | cons r1 r=>cases r; exact ⟨_,rfl,r1⟩
 cases (show u=Value.ref _ from ru)
 obtain ⟨its,rv,pl,hz⟩:=I.list h
 obtain rfl:=fG rv
 have lt:∀ a,s.heap.IsList a (bs.map Value.bool).toArray->a ≠ s.heap.objs.size:=λa ⟨o,z,_⟩=>Nat.ne_of_lt (Heap.lt_size z)
 refine call_all_walk (wpAny_pyIter_list pl.isList ⟨_,_,_,_,_,_,λi=>(bs.map Value.bool)[i]? == some (Value.bool true),rfl,Walks.list (A:=X.A.in1) (I.ok.hd hc) _ _ (lt _ pl.isList) (bs.map Value.bool).toArray,⟨⟨_,Heap.get?_push_size _ rfl,rfl,rfl⟩,?_⟩,λi v s' Q' E' hP hQ=>?_,λh' tk hk=>?_⟩)
 · obtain ⟨o,z1,z2⟩:=pl.isList
   exact ⟨o,Heap.get?_push_of_some _ z1,z2⟩
 · have hP':(bs.map Value.bool)[i]?=some v:=by simpa using hP
   obtain ⟨c,_,rfl⟩:=List.mem_map.mp (List.mem_of_getElem? hP')
   refine wpAny_truthy_bool ?_
   have hQ:Q' ((bs.map Value.bool)[i]? == some (Value.bool true)) s':=hQ
   rw [hP'] at hQ
   cases c
   · exact hQ
   · exact hQ
 · refine ⟨.bl (bs.all id),H,I.kept (t':=tk) λb' o z=>?_,?_,q⟩
   · refine hk b' o (λhm=>?_) (Heap.get?_push_of_some _ z)
     have:b'=s.heap.objs.size:=by simpa using hm
     exact absurd (Heap.lt_size z) (by rw [this]; exact Nat.lt_irrefl _)
   · have e:∀ bs:List Bool,bs.all id=(List.range (bs.map Value.bool).toArray.size).all λi=>(bs.map Value.bool)[i]? == some (Value.bool true):=λbs=>by
       rw [List.size_toArray,List.length_map]
       induction bs with
       | nil=>rfl
       | cons b bs ih=>
         rw [List.all_cons,ih,List.length_cons,List.range_succ_eq_map,List.all_cons,List.all_map]
         congr 1
         cases b <;> rfl
     rw [e]; rfl
theorem mZ {K:PySem.W.Frag} {H:Hp}:∀ {vs:List V} {bs:List Bool},aq K H vs (bs.map .bl)->vs=bs.map V.bl
 | _,[],h=>by cases h; rfl
 | _,_ :: _,h=>by
   cases h with
   | cons d r=>cases d; rw [mZ r]; rfl
theorem lO (hc:X.calm=true) (bs:List Bool) (hx:xs=bs.map .bl):kJ X (.builtin "all") [.lst xs] (.d (.bl (bs.all id))):=⟨_,tO hc,λM vs H Q _ d q=>by
 subst hx
 cases d with
 | cons d r=>
   cases r
   cases d with
   | lst h r=>
     cases mZ r
     exact ⟨_,_,rfl,aM aW h,q _ H [] (ai.refl _) fD (iV .bl)⟩⟩
end
end Hy
namespace Hy
open PySem PySem.Spec PyProof.Rows L2
open Ev (D Den aq aC aB ak ba aM)
section
variable {X:Cx} {i:Int}
end
end Hy
namespace Hy
open PySem PySem.Spec PyProof.Rows L2
open Ev (D Den aq ak ba aM aH fu dg PTs cE eh)
section
variable {X:Cx} {C:Bool} {τ:List Sl} {x y z:D} {a b e c tg it elt o:Expr} {es ifs:List Expr} {pos p q:Pos} {k:Nat} {s:Sl} {N:Po} {rest body:List Stmt} {ds xs ys:List D} {i j:Int} {scope:Scope}
theorem xw:OpR X (binaryOp .Mult) (λx y H Q=>∃ l k xs,x=.ref l/\y=.int k/\SqL X.K H l xs/\0<=k/\k < 100000/\xs.length * k.toNat<=sizeLine/\∀ p,H p=none->Q (.ref p) (upd H p (.lst (List.replicate k.toNat xs).flatten))):=by
 intro pins s σ H x y v u Q I rx ry h
 obtain ⟨l,k,xs,rfl,rfl,hH,h1,h2,hz,q⟩:=h
 cases rx
 obtain ⟨t,rfl⟩:=ry
 obtain ⟨its,r,pl,_⟩:=I.list hH
 have hl:=r.length
 obtain ⟨⟨cls,dd,data,sl⟩,e,hc,n,hd⟩:=pl.isList
 simp only at hc hd
 subst hc hd
 have hlen:its.toArray.size * k.toNat<=sizeLine:=by rw [List.size_toArray,<- hl]; exact hz
 have hcap:¬ its.toArray.size * k.toNat > (2 ^ 63 - 1) / 8:=by
   have:(sizeLine:Nat)<=(2 ^ 63 - 1) / 8:=by decide
   omega
 have hfit:¬ (!Builtin.List.listFitsIndex k)=true:=by
   rw [fitsIndex_both (by omega) (by omega)]
   exact Bool.false_ne_true
 have hlong:¬ Builtin.List.listTooLong (its.toArray.size * k.toNat)=true:=by
   rw [uz hlen]
   exact Bool.false_ne_true
 have hnew:List.foldl (λx1 x2=>x1++x2) #[] (List.replicate (if its.toArray.isEmpty=true then 0 else k.toNat) its.toArray)=(List.replicate k.toNat its).flatten.toArray:=by
   have f0:∀ m:Nat,List.foldl (λx1 x2=>x1++x2) #[] (List.replicate m its.toArray)=(List.replicate m its).flatten.toArray:=λm=>by
     have:=foldl_rep its m []
     rw [List.nil_append] at this
     exact this
   rw [f0]
   cases its with
   | nil=>simp
   | cons a r'=>rw [if_neg (by simp)]
 refine wpAny_binaryOp_repeat_ref (T:="list") (U:="int") (by decide) ⟨_,e,rfl⟩ (λs'=>typeIs_int s' k t) noFill_list_mul F.fills_int_mul F.slot_int_rmul repeat_list F.slot_int_index.lookup
   (call_meets F.slot_int_rmul (typeIs_int s k t) F.entry_int_rmul (F.args_int_rmul_2 _ _) (lm_int_rmul_list_any k t l its.toArray n dd sl)
     ⟨e,rfl,⟨_,e,rfl⟩,call_meets F.slot_list_mul ⟨_,e,rfl⟩ F.entry_list_mul (F.args_list_mul_2 _ _) (lm_list_mul_any l its.toArray n dd sl k t hfit hcap hlong) ⟨e,?_⟩⟩)
 rw [hnew]
 exact ⟨.ref _,_,I.A5 (t':=s.toks) (r.rep k.toNat) (by rw [len_rep,Nat.mul_comm]; exact hz),rfl,q _ I.fresh⟩
theorem rF {K:PySem.W.Frag} {H:Hp} {vs:List V} (h:aq K H vs xs):∀ k:Nat,aq K H (List.replicate k vs).flatten (List.replicate k xs).flatten
 | 0=>.nil
 | k + 1=>by rw [List.replicate_succ,List.replicate_succ,List.flatten_cons,List.flatten_cons]; exact h.append (rF h k)
theorem Bz (ha:PE X a (dE X.K C τ (.d (.lst xs)))) (hb:PE X b (dE X.K C τ (.d (.int j)))) (h0:0<=j) (h1:j < 100000) (hl:xs.length * j.toNat < 1000000):PE X (.BinOp a .Mult b pos) (dE X.K C τ (.o (List.replicate j.toNat xs).flatten)):=peW (vB xw ha hb) λσ H Q ⟨A,H₀,B,S,k⟩=>
 aQ S λv H1 e1 d1=>aQ (S.mono e1) λw H2 e2 d2=>by
   cases d2
   cases d1 with
   | lst h1' r1=>
     refine ⟨_,j,_,rfl,rfl,aM (aW.trans e2) h1',h0,h1,by rw [r1.length]; exact Nat.le_of_lt (Nat.lt_trans hl (by decide)),λp hp=>?_⟩
     obtain ⟨z1,z2,z3⟩:=mT (K:=X.K) hp (rF (r1.mono (az e2 λ_ z=>z)) j.toNat)
     exact k _ _ [p] (e1.trans (e2.trans z1)) (λb hb=>⟨(e1.trans e2).free (z2 b hb).1,(z2 b hb).2⟩) z3
theorem AB {K:PySem.W.Frag} {H:Hp} {M:Addr->Prop} {p:Addr} {o:HO} {vs:List V} {bs:List Addr} {ns:List Nd} (hp:H p=none) (d:aI K (hd H λb=>M b\/b ∈ bs) H vs bs ns) (nd:bs.Nodup) :
   aI K (hd (upd H p o) λb=>M b\/b ∈ p :: bs) (upd H p o) vs bs ns/\(p :: bs).Nodup:=by
 have off:∀ b ∈ bs,b ≠ p:=λb hb z=>by obtain ⟨w,q⟩:=d.some_of b hb; rw [z,hp] at q; cases q
 refine ⟨d.frame (λb w z=>?_) λb hb=>av (off b hb),List.nodup_cons.mpr ⟨λz=>off p z rfl,nd⟩⟩
 obtain ⟨z1,z2⟩:=ao.mp z
 have ne:b ≠ p:=λy=>by rw [y,hp] at z2; cases z2
 refine ao.mpr ⟨λy=>?_,by rw [av ne]; exact z2⟩
 rcases y with y | y
 · exact z1 (.inl y)
 · rcases List.mem_cons.mp y with y | y
   · exact ne y
   · exact z1 (.inr y)
end
section
variable {X:Cx} {C:Bool} {τ τ':List Sl} {x y z:D} {a b e c tg it elt o ix:Expr} {es ifs:List Expr} {pos p q:Pos} {k:Nat} {s:Sl} {N:Po} {rest body:List Stmt} {ds xs ys:List D} {i:Nat} {j:Int} {scope:Scope}
noncomputable def dGs (K:PySem.W.Frag) (τ:List Sl) (xs:List D) (τ':List Sl):TGs:=λvs σ H Q=>∃ A H₀ B,Sta K A H₀ τ B σ H/\aq K (hd H (own A B)) vs xs/\∀ σ' B',Sta K A H₀ τ' B' σ' H->Q σ' H
theorem BF {es:List Expr} {t t':TGs} (h:PGs X es t) (f:∀ v σ H Q,t' v σ H Q->t v σ H Q):PGs X es t':=λpins s σ H v u Q I r q=>h pins s σ H v u Q I r (f v σ H Q q)
theorem vO:PGs X [] (dGs X.K τ [] τ):=BF rK λv σ H Q ⟨A,H₀,B,S,d,k⟩=>by
 cases d
 exact ⟨rfl,k σ B S⟩
theorem jB (i:Nat) {n:Str} (hN:X.N.Nodup) (h:PGs X es (dGs X.K (τ.set i (.d x)) xs τ')) (hi:X.N[i]?=some n:=by rfl) (hx:Loc X.env.scope n:=by first | exact .inl rfl | exact .inr rfl) (hf:X.fn n=true\/X.env.scope.names.lookup n=some .local:=by first | exact .inl rfl | exact .inr rfl | assumption):PGs X (.Name n p :: es) (dGs X.K τ (x :: xs) τ'):=
 BF (jW (cF (i:=i) hN hi hx hf) h) λv σ H Q ⟨A,H₀,B,S,d,k⟩=>by
   cases d with
   | cons d r=>
     have sub:∀ b,own A (upB B i []) b->own A B b:=λb z=>z.elim .inl λ⟨j,z⟩=>(bg z).elim (λz=>nomatch z.2) λz=>.inr ⟨j,z.2⟩
     exact ⟨_,_,rfl,A,H₀,_,S.set (ai.refl _) (bs:=[]) (λ_ z=>nomatch z) (iV d),r.mono (az (ai.refl _) sub),k⟩
theorem yH {m:Nat} (hc:X.calm=true) (h:PGs X es (dGs X.K τ xs τ')) (hl:(assignEach es X.env).length=xs.length:=by rfl) (hst:(assignEach es X.env).findIdx? (·.1)=none:=by rfl):PG X (.Tuple es m pos) (dG X.K τ (.tup xs) τ'):=
 pgW (wc (n:=xs.length) hc h hl hst) λv σ H Q ⟨A,H₀,B,S,d,k⟩=>by
   cases d with
   | tup h r=>exact ⟨_,_,rfl,ba aW h,r.length,A,H₀,B,S,r,k⟩
theorem uy {m:Nat} (he:PE X e (dE X.K true τ (.d x))) (hg:PG X (.Tuple es m p) (dG X.K τ x τ')) (hr:PSs X rest (dS X.K τ' N)) (hs:swapsWithSole [.Tuple es m p] e pos.line X.env=pure false:=by rfl) (hw:swappedStores [.Tuple es m p] e X.env=pure none:=by rfl)
   (h1:(assignEach [.Tuple es m p] X.env).map (·.2)=[assign (.Tuple es m p) X.env]:=by rfl):PSs X (.Assign [.Tuple es m p] e pos :: rest) (dS X.K τ N):=
 a7 (M:=(·=τ')) (psW (mf he hg hs hw h1) λD σ H ⟨A,H₀,B,S,Me⟩=>aQ S λv H1 e1 d1=>⟨A,H₀,B,S.mono e1,d1,λσ' B' S'=>Me.nx _ _ _ _ rfl S'⟩) λ_ e=>e ▸ hr
theorem CJ (T:Nat->List Sl) {f:Nat->D} (B:Bk X k) (hi:PI X tg it (dI X.K τ xs)) (hl:xs.length < 1000000) (hT:∀ i,(T i).length=(bE τ (bCp X.N scope)++[Sl.un]).length/\∀ (l:Nat) (x:D),(bE τ (bCp X.N scope)++[Sl.un])[l]?=some (.d x)->(T i)[l]?=some (.d x))
   (hg:∀ i (h:i < xs.length) s H fp,PG (cpX X s H scope fp) tg (dG X.K (bE τ (bCp X.N scope)++[.un]) xs[i] (T i)))
   (he:∀ i,i < xs.length->∀ s H fp,PE (cpX X s H scope fp) elt (dE X.K true (T i) (.d (f i)))) (hc:bOk X.env.scope scope=true:=by kernel_rfl) (hs:∀ x,foldedSetIterable it X.env x=pure x:=by intro _; rfl) :
   Cmp X elt tg it [] scope τ ((List.range xs.length).map f):=by
 have h:=pW (T:=T) (t:=λ_=>true) (f:=f) (elt:=elt) (ifs:=[]) hc hi hT hg (λi h s H fp=>λpins s' σ H' Q I ⟨A,H₀,B,S,q⟩=>mB pins s' σ H' Q I (q H' (ai.refl _))) (λi h _ s H fp=>he i h s H fp) hl hs
 rwa [List.filter_eq_self.mpr λ_ _=>rfl] at h
theorem wX {c:Expr} {t:TT} (h:PT X c t):PTs X [c] t:=λpins s σ H Q I q=>wpAny_tests_one (h pins s σ H Q I q)
structure sY (X:Cx) (elt tg it:Expr) (ifs:List Expr) (scope:Scope) (τ:List Sl) (ns:List Nd):Prop where
 ex:∃ (In:TG->TT->TE->Prop) (caps:List (Option Nat)) (N:List Str) (wi:TI),dg X scope N caps/\PI X tg it wi/\(∀ g tt te,In g tt te->∀ s H fp,PG (aH X s H scope N fp) tg g/\PTs (aH X s H scope N fp) ifs tt/\PE (aH X s H scope N fp) elt te) /\
   ∀ C σ H Q,dE X.K C τ (.n (.l ns)) σ H Q->eh In caps wi σ H Q
 hs:∀ x,foldedSetIterable it X.env x=pure x
theorem Bw {ns:List Nd} (h:sY X elt tg it ifs scope τ ns):PE X (.ListComp elt [⟨tg,it,ifs,0⟩] scope pos) (dE X.K C τ (.n (.l ns))):=by
 obtain ⟨In,caps,N,wi,h1,h2,h3,h4⟩:=h.ex
 exact peW (cE h1 h2 h.hs h3) (h4 C)
theorem xW {T:Nat->List Sl} {f:Nat->Nd} {S':Nat->Sl} (B:Bk X k) (hc:bOk X.env.scope scope=true) (hi:PI X tg it (dI X.K τ xs)) (hT:∀ i,(T i).length=(bE τ (bCp X.N scope)++[Sl.un]).length/\∀ (l:Nat) (x:D),(bE τ (bCp X.N scope)++[Sl.un])[l]?=some (.d x)->(T i)[l]?=some (.d x))
   (hg:∀ i (h:i < xs.length) s H fp,PG (cpX X s H scope fp) tg (dG X.K (bE τ (bCp X.N scope)++[.un]) xs[i] (T i)))
   (he:∀ i,i < xs.length->∀ s H fp,PE (cpX X s H scope fp) elt (dE X.K true (T i) (S' i))) (hn:∀ i,i < xs.length->sO (S' i)=some (f i)) (hl:xs.length < 1000000) (hs:∀ x,foldedSetIterable it X.env x=pure x:=by intro _; rfl) :
   sY X elt tg it [] scope τ ((List.range xs.length).map f):=by
 obtain ⟨cap,_⟩:=gq hc
 generalize hτ:bE τ (bCp X.N scope)++[Sl.un]=τb at *
 refine ⟨⟨λg tt te=>g=(λv σ H Q=>∃ (i:Nat) (h:i < xs.length),dG X.K τb xs[i] (T i) v σ H Q)/\tt=(λσ H Q=>Q true H)/\te=(λσ H Q=>∃ i,i < xs.length/\dE X.K true (T i) (S' i) σ H Q),_,_,_,cap,hi,?_,?_⟩,hs⟩
 · rintro g tt te ⟨rfl,rfl,rfl⟩ s H fp
   exact ⟨λpins s' σ H' v u Q I r ⟨i,h,q⟩=>hg i h s H fp pins s' σ H' v u Q I r q,mB,λpins s' σ H' Q I ⟨i,h,q⟩=>he i h s H fp pins s' σ H' Q I q⟩
 rintro C σ H Q ⟨A,H₀,B,S,kk⟩
 refine ⟨A,H₀,B,S,λJ H1 e1 yl=>⟨_,_,_,⟨rfl,rfl,rfl⟩,λD hD=>?_⟩⟩
 have S1:=S.mono e1
 have flat:∀ (l:Nat) (s:Sl),τb[l]?=some s->s=.un\/∃ x,s=.d x:=λl s h=>by
   rw [<- hτ] at h
   rcases List.mem_append.mp (List.mem_of_getElem? h) with z | z
   · unfold bE at z
     obtain ⟨o,_,ho⟩:=List.mem_map.mp z
     split at ho
     · split at ho
       · exact .inr ⟨_,ho.symm⟩
       · exact .inl ho.symm
     · exact .inl ho.symm
   · exact .inl (List.mem_singleton.mp z)
 have slots:∀ {σ':L2.St} {H':Hp} {rs:List Addr},ai H1 H'->(∃ o,H' D=some o)->(∀ b ∈ rs,∃ o,H' b=some o)->σ'.length=τb.length->(∀ (l:Nat) (s:Sl),τb[l]?=some s->cj X.K (hd H' λb=>own A B b\/b=D\/b ∈ rs) H' (σ'[l]?).join [] s)->Sta X.K (λb=>own A B b\/b=D\/b ∈ rs) H' τb (λ_=>[]) σ' H':=λ{σ' H' rs} e1 e2 e5 e3 e4=>
   ⟨ai.refl _,e3,λl s h=>(e4 l s h).mono (az (ai.refl _) λ_ z=>z.elim id λ⟨_,z⟩=>(nomatch z)) (ai.refl _),λ_ _ z=>(nomatch z),λ_ _ _ z=>(nomatch z),λb z=>z.elim (λz=>let ⟨o,q⟩:=S1.dm b z; ⟨o,e1 _ _ q⟩) λz=>z.elim (λz=>z ▸ e2) (e5 b),λ_ _ z=>(nomatch z)⟩
 refine ⟨λi m σ' H'=>m=xs.length - i/\i<=xs.length/\ai H1 H'/\(∃ vs rs,H' D=some (.lst vs)/\vs.length<=i/\aI X.K (hd H' λb=>own A B b\/b=D\/b ∈ rs) H' vs rs ((List.range i).map f)/\(D :: rs).Nodup/\(∀ b ∈ rs,H1 b=none) /\
   σ'.length=τb.length/\∀ (l:Nat) (s:Sl),τb[l]?=some s->cj X.K (hd H' λb=>own A B b\/b=D\/b ∈ rs) H' (σ'[l]?).join [] s),⟨xs.length,rfl,Nat.zero_le _,ak hD _,[],[],aJ,Nat.le_refl _,.nil,by simp,λ_ z=>(nomatch z),?_,λl s h=>?_⟩,?_⟩
 · rw [<- hτ]; unfold fu bE; rw [List.length_append,List.length_append,List.length_map,List.length_map]; rfl
 · have hv:ai (hd H (own A B)) (hd (upd H1 D (.lst [])) λb=>own A B b\/b=D\/b ∈ ([]:List Addr)):=λb o z=>by
     obtain ⟨z1,z2⟩:=ao.mp z
     have z2:=e1 _ _ z2
     have ne:b ≠ D:=λz=>by rw [z,hD] at z2; cases z2
     exact ao.mpr ⟨λy=>y.elim z1 λy=>y.elim ne λy=>(nomatch y),by rw [av ne]; exact z2⟩
   rcases flat l s h with rfl | ⟨x,rfl⟩
   · rfl
   · rw [<- hτ] at h
     have hlt:l < (bCp X.N scope).length:=by
       rcases Nat.lt_or_ge l (bCp X.N scope).length with h' | h'
       · exact h'
       · exfalso
         rw [List.getElem?_append_right (by unfold bE; rw [List.length_map]; exact h')] at h
         cases e:l - (bE τ (bCp X.N scope)).length with
         | zero=>rw [e] at h; cases h
         | succ n=>rw [e] at h; cases h
     rw [List.getElem?_append_left (by unfold bE; rw [List.length_map]; exact hlt)] at h
     rw [List.getElem?_append_left (by unfold fu; rw [List.length_map]; exact hlt)]
     unfold bE at h
     unfold fu
     rw [List.getElem?_map] at h ⊢
     cases e:(bCp X.N scope)[l]? with
     | none=>rw [e] at h; cases h
     | some o=>
       rw [e] at h
       cases o with
       | none=>cases h
       | some i=>
         simp only [Option.map_some,Option.some.injEq] at h
         split at h
         · rename_i x' hx'
           cases h
           obtain ⟨_,u,eu,d⟩:=S.sl i _ hx'
           exact ⟨rfl,u,by simpa using eu,d.mono hv⟩
         · cases h
 rintro i m σ' H' ⟨rfl,hi,e2,vs,rs,hv1,hv2,hv3,hnd,hfr,hlen,hsl⟩
 obtain ⟨y1,y2⟩:=yl H' (aW.trans e2)
 have rsd:∀ b ∈ rs,∃ o,H' b=some o:=hv3.some_of
 by_cases hlt:i < xs.length
 · obtain ⟨g,y⟩:=y2 i hlt
   refine .inr ⟨g,λx H2 hy=>?_⟩
   obtain ⟨e3,dx⟩:=y x H2 hy
   have S2:=slots e2 ⟨_,hv1⟩ rsd hlen hsl
   have o0:∀ b,own (λb=>own A B b\/b=D\/b ∈ rs) (λ_=>([]:List Addr)) b->own A B b\/b=D\/b ∈ rs:=λb z=>z.elim id λ⟨_,z⟩=>(nomatch z)
   have dx':=dx _ S2.dm (λb o z=>by
     obtain ⟨z1,z2⟩:=ao.mp z
     exact ao.mpr ⟨λy=>(o0 b y).elim z1 λy=>y.elim (λy=>(by rw [y,hD] at z2; cases z2)) λy=>(by rw [hfr b y] at z2; cases z2),e2 _ _ z2⟩)
   refine ⟨i,hlt,_,_,_,S2.mono e3,dx',λσ2 B2 S3=>?_⟩
   refine tG ⟨i,hlt,_,_,_,S3,λv H5 bs e5 hf5 d5=>?_⟩
   obtain ⟨nv,ndv⟩:=d5.nd (hn i hlt)
   have e6:=e3.trans e5
   have hv5:=e6 _ _ hv1
   have bsD:∀ b ∈ bs,b ≠ D:=λb hb z=>by have:=(hf5 b hb).1; rw [z,e3 _ _ hv1] at this; cases this
   have bsR:∀ b ∈ bs,b ∉ rs:=λb hb z=>by obtain ⟨o,q⟩:=rsd b z; have:=(hf5 b hb).1; rw [e3 _ _ q] at this; cases this
   refine ⟨vs,xs.length - (i + 1),hv5,Nat.lt_trans (Nat.lt_of_le_of_lt hv2 (Nat.lt_trans hlt hl)) (by decide),by omega,rfl,hlt,?_,vs++[v],rs++bs,aJ,by rw [List.length_append]; exact Nat.succ_le_succ hv2,?_,?_,?_,S3.len.trans (hT i).1,λl s h=>?_⟩
   · intro b o z
     have ne:b ≠ D:=λy=>by rw [y,hD] at z; cases z
     rw [av ne]
     exact e6 _ _ (e2 _ _ z)
   · rw [List.range_succ,List.map_append]
     have sm1:ai (hd H5 λb=>vw true (λb=>own A B b\/b=D\/b ∈ rs) B2 b\/b ∈ bs) (hd (upd H5 D (.lst (vs++[v]))) λb=>own A B b\/b=D\/b ∈ rs++bs):=λb o z=>by
       obtain ⟨z1,z2⟩:=ao.mp z
       refine ao.mpr ⟨λy=>z1 ?_,by rw [av (λy:b=D=>z1 (.inl (.inl (.inr (.inl y)))))]; exact z2⟩
       rcases y with y | y | y
       · exact .inl (.inl (.inl y))
       · exact .inl (.inl (.inr (.inl y)))
       · exact (List.mem_append.mp y).elim (λy=>.inl (.inl (.inr (.inr y)))) .inr
     have sm2:ai (hd H' λb=>own A B b\/b=D\/b ∈ rs) (hd (upd H5 D (.lst (vs++[v]))) λb=>own A B b\/b=D\/b ∈ rs++bs):=λb o z=>by
       obtain ⟨z1,z2⟩:=ao.mp z
       refine ao.mpr ⟨λy=>?_,by rw [av (λy:b=D=>z1 (.inr (.inl y)))]; exact e6 _ _ z2⟩
       rcases y with y | y | y
       · exact z1 (.inl y)
       · exact z1 (.inr (.inl y))
       · rcases List.mem_append.mp y with y | y
         · exact z1 (.inr (.inr y))
         · have:=(hf5 b y).1; rw [e3 _ _ z2] at this; cases this
     refine aI.snoc (nv.frame sm1 λb hb=>av (bsD b hb)) (hv3.frame sm2 λb hb=>?_)
     obtain ⟨o,q⟩:=rsd b hb
     rw [av (λz:b=D=>(List.nodup_cons.mp hnd).1 (by rw [<- z]; exact hb)),e6 _ _ q,q]
   · obtain ⟨n1,n2⟩:=List.nodup_cons.mp hnd
     refine List.nodup_cons.mpr ⟨λz=>?_,List.nodup_append.mpr ⟨n2,ndv,λx hx y hy z=>bsR y hy (z ▸ hx)⟩⟩
     exact (List.mem_append.mp z).elim n1 λz=>bsD D z rfl
   · intro b hb
     rcases List.mem_append.mp hb with z | z
     · exact hfr b z
     · exact (e2.trans e3).free (hf5 b z).1
   · rcases flat l s h with rfl | ⟨x,rfl⟩
     · rfl
     · obtain ⟨_,u,eu,d⟩:=S3.sl l _ ((hT i).2 l x h)
       refine ⟨rfl,u,eu,d.mono λb o z=>?_⟩
       obtain ⟨z1,z2⟩:=ao.mp z
       refine ao.mpr ⟨λy=>?_,by rw [av (λy:b=D=>z1 (.inl (.inr (.inl y))))]; exact e5 _ _ z2⟩
       rcases y with y | y | y
       · exact z1 (.inl (.inl y))
       · exact z1 (.inl (.inr (.inl y)))
       · rcases List.mem_append.mp y with y | y
         · exact z1 (.inl (.inr (.inr y)))
         · rw [(hf5 b y).1] at z2; cases z2
 · have e:i=xs.length:=by omega
   subst e
   refine .inl ⟨y1 _ (Nat.le_refl _),kk _ _ (D :: rs) (e1.trans e2) (λb hb=>?_) ⟨hnd,_,rfl,.l hv1 (hv3.frame (az (ai.refl _) λb z=>?_) λ_ _=>rfl)⟩⟩
   · rcases List.mem_cons.mp hb with rfl | z
     · exact ⟨e1.free hD,_,hv1⟩
     · exact ⟨e1.free (hfr b z),rsd b z⟩
   · rcases z with z | z
     · exact .inl (nG z)
     · exact .inr ((List.mem_cons.mp z).elim .inl .inr)
theorem Ab (j:Nat) {n:Str} {g:Nat->D} {f:Nat->Nd} {S':Nat->Sl} (B:Bk X k) (hi:PI X (.Name n p) it (dI X.K τ xs)) (hx:∀ i (h:i < xs.length),xs[i]=g i) (hl:xs.length < 1000000)
   (he:∀ i,i < xs.length->∀ s H fp,PE (cpX X s H scope fp) elt (dE X.K true ((bE τ (bCp X.N scope)++[Sl.un]).set j (.d (g i))) (S' i))) (hn:∀ i,i < xs.length->sO (S' i)=some (f i))
   (hc:bOk X.env.scope scope=true:=by kernel_rfl) (hu:(bE τ (bCp X.N scope)++[Sl.un])[j]?=some .un:=by rfl) (hN:(bNm scope++[("#" : Str)])[j]?=some n:=by rfl) (hv:∀ s H fp,Loc (cpX X s H scope fp).env.scope n:=by intro _ _ _; first | exact .inl rfl | exact .inr rfl)
   (hf:∀ s H fp,(cpX X s H scope fp).fn n=true\/(cpX X s H scope fp).env.scope.names.lookup n=some .local:=by intro _ _ _; first | exact .inr rfl | exact .inl rfl) (hs:∀ x,foldedSetIterable it X.env x=pure x:=by intro _; rfl) :
   sY X elt (.Name n p) it [] scope τ ((List.range xs.length).map f):=by
 refine xW (T:=λi=>(bE τ (bCp X.N scope)++[Sl.un]).set j (.d (g i))) B hc hi (λi=>⟨List.length_set,λl x h=>?_⟩) (λi h s H fp=>?_) he hn hl hs
 · rw [List.getElem?_set_ne (λz=>by rw [<- z,hu] at h; cases h)]
   exact h
 · rw [hx i h]
   exact wL j (gq hc).2 hN (hv s H fp) (hf s H fp)
end
section
variable {X:Cx} {C:Bool} {τ τ':List Sl} {x y z:D} {a b e c tg it elt o ix:Expr} {es ifs:List Expr} {pos p q:Pos} {k:Nat} {s:Sl} {N:Po} {rest body:List Stmt} {ds xs ys:List D} {i:Nat} {scope:Scope}
theorem AY (j l:Nat) {n m:Str} {p2 pt:Pos} {md:Nat} {g g' f:Nat->D} (B:Bk X k) (hi:PI X (.Tuple [.Name n p,.Name m p2] md pt) it (dI X.K τ xs)) (hx:∀ i (h:i < xs.length),xs[i]=.tup [g i,g' i]) (hl:xs.length < 1000000)
   (he:∀ i,i < xs.length->∀ s H fp,PE (cpX X s H scope fp) elt (dE X.K true (((bE τ (bCp X.N scope)++[Sl.un]).set j (.d (g i))).set l (.d (g' i))) (.d (f i))))
   (hc:bOk X.env.scope scope=true:=by kernel_rfl) (hu:(bE τ (bCp X.N scope)++[Sl.un])[j]?=some .un:=by rfl) (hu':(bE τ (bCp X.N scope)++[Sl.un])[l]?=some .un:=by rfl) (hN:(bNm scope++[("#" : Str)])[j]?=some n:=by rfl) (hN':(bNm scope++[("#" : Str)])[l]?=some m:=by rfl) (hv:∀ s H fp,Loc (cpX X s H scope fp).env.scope n:=by intro _ _ _; first | exact .inl rfl | exact .inr rfl) (hv':∀ s H fp,Loc (cpX X s H scope fp).env.scope m:=by intro _ _ _; first | exact .inl rfl | exact .inr rfl)
   (hf:∀ s H fp,(cpX X s H scope fp).fn n=true\/(cpX X s H scope fp).env.scope.names.lookup n=some .local:=by intro _ _ _; first | exact .inr rfl | exact .inl rfl) (hf':∀ s H fp,(cpX X s H scope fp).fn m=true\/(cpX X s H scope fp).env.scope.names.lookup m=some .local:=by intro _ _ _; first | exact .inr rfl | exact .inl rfl) (hs:∀ x,foldedSetIterable it X.env x=pure x:=by intro _; rfl) :
   Cmp X elt (.Tuple [.Name n p,.Name m p2] md pt) it [] scope τ ((List.range xs.length).map f):=
 CJ (λi=>((bE τ (bCp X.N scope)++[Sl.un]).set j (.d (g i))).set l (.d (g' i))) B hi hl (λi=>⟨by rw [List.length_set,List.length_set],λr x h=>by
     rw [List.getElem?_set_ne (λz=>by rw [<- z,hu'] at h; cases h),List.getElem?_set_ne (λz=>by rw [<- z,hu] at h; cases h)]
     exact h⟩)
   (λi h s H fp=>by rw [hx i h]; exact yo j l (B.comp s H scope fp).calm (gq hc).2 hN hN' (hv s H fp) (hv' s H fp) (hf s H fp) (hf' s H fp)) he hc hs
end
end Hy
namespace Su
open PySem PyProof.Rows HT
open PySem.SeqAt
open PySem.AutoSeq1 (wpAny_loadPart')
open PySem.MeetsSeq PySem.MeetsSeq2 PySem.MeetsSeq3
section
variable {prog:Program} {w:World} {A:Around} {E:Value->Shared->Prop} {s:Shared}
end
end Su
namespace Hy
open PySem PySem.Spec PyProof.Rows L2
open Ev (D Den aq aC aB ak ba aM)
section
variable {X:Cx} {C:Bool} {τ:List Sl} {x y z:D} {a b e:Expr} {es:List Expr} {pos p:Pos} {k:Nat} {s:Sl} {ds xs ys:List D} {i j:Int} {N:Po} {rest:List Stmt}
end
section
variable {X:Cx} {C:Bool} {τ:List Sl} {x y z:D} {a b e:Expr} {es:List Expr} {pos p:Pos} {k:Nat} {s:Sl} {ds xs ys:List D} {N:Po} {rest:List Stmt}
end
end Hy
namespace Hy
open PySem PySem.Spec PyProof.Rows L2
open Ev (D Den aq)
mutual
noncomputable def oO:Nd->Bool
 | .d x=>flat x
 | .l xs=>lK xs
 | .t xs=>lK xs
noncomputable def lK:List Nd->Bool
 | []=>true
 | x :: xs=>oO x && lK xs
end
noncomputable def yh:Sl->Bool
 | .un=>true
 | .d x=>flat x
 | .o xs=>xs.all flat
 | .n t=>oO t
 | .x _=>false
section
variable {K:PySem.W.Frag} {G G' H:Hp}
mutual
theorem bA.fl:∀ {u:V} {bs:List Addr} {t:Nd},bA K G H u bs t->oO t=true->bA K G' H u bs t
 | _,_,_,.d h,f=>.d (fV h (by rw [oO] at f; exact f))
 | _,_,_,.l h r,f=>.l h (aI.fl r (by rw [oO] at f; exact f))
 | _,_,_,.t h r,f=>.t h (aI.fl r (by rw [oO] at f; exact f))
theorem aI.fl:∀ {vs:List V} {bs:List Addr} {ts:List Nd},aI K G H vs bs ts->lK ts=true->aI K G' H vs bs ts
 | _,_,_,.nil,_=>.nil
 | _,_,_,.cons h r,f=>by
   rw [lK,Bool.and_eq_true] at f
   exact .cons (bA.fl h f.1) (aI.fl r f.2)
end
theorem qY:∀ {vs:List V} {xs:List D},aq K G vs xs->xs.all flat=true->aq K G' vs xs
 | _,_,.nil,_=>.nil
 | _,_,.cons h r,f=>by
   rw [List.all_cons,Bool.and_eq_true] at f
   exact .cons (fV h f.1) (qY r f.2)
theorem cj.fl {v:Option V} {bs:List Addr}:∀ {s:Sl},cj K G H v bs s->yh s=true->cj K G' H v bs s
 | .un,h,_=>h
 | .d _,⟨h,u,e1,h2⟩,f=>⟨h,u,e1,fV h2 f⟩
 | .o _,⟨a,vs,h1,h2,h3,h4⟩,f=>⟨a,vs,h1,h2,h3,qY h4 f⟩
 | .n _,⟨h0,u,h1,h2⟩,f=>⟨h0,u,h1,h2.fl f⟩
end
theorem u7 {X:Cx} {C C':Bool} {τ:List Sl} {e:Expr} {s s0:Sl} {x:D} (i:Nat) (h:PE X e (dE X.K C' (τ.set i (.d x)) s)) (f:yh s=true) (hi:τ[i]?=some s0:=by rfl) (hx:fzD s0=some x:=by rfl):PE X e (dE X.K C τ s):=
 peW h λσ H Q ⟨A,H₀,B,S,k⟩=>⟨A,H₀,_,S.fz hi hx,λv H' bs e fr q=>k v H' bs e fr (q.fl f)⟩
theorem CF {X:Cx} {τ:List Sl} {elt tg it:Expr} {ifs:List Expr} {pos p spos:Pos} {scope:Scope} {rest:List Stmt} {N:Po} {ns:List Nd} {s0:Sl} {x:D} (i j:Nat) {n:Str} (hN:X.N.Nodup) (h:sY X elt tg it ifs scope (τ.set j (.d x)) ns) (f:lK ns=true) (hr:PSs X rest (dS X.K (τ.set i (.n (.l ns))) N))
   (hj:τ[j]?=some s0:=by rfl) (hx:fzD s0=some x:=by rfl) (hi:X.N[i]?=some n:=by rfl) (hl:Loc X.env.scope n:=by first | exact .inl rfl | exact .inr rfl)
   (hsw:swapsWith (.ListComp elt [⟨tg,it,ifs,0⟩] scope pos) (some (.Name n p)) spos.line X.env=pure true:=by rfl) (hf:X.fn n=true\/X.env.scope.names.lookup n=some .local:=by first | exact .inl rfl | exact .inr rfl | assumption) :
   PSs X (.Assign [.Name n p] (.ListComp elt [⟨tg,it,ifs,0⟩] scope pos) spos :: rest) (dS X.K τ N):=by
 obtain ⟨In,caps,N',wi,h1,h2,h3,h4⟩:=h.ex
 exact a7 (M:=(·=τ.set i (.n (.l ns)))) (psW (Ev.gf (cF (i:=i) hN hi hl hf) h1 h2 h.hs h3 hsw) λD σ H ⟨A,H₀,B,S,Me⟩=>h4 true _ _ _ ⟨A,H₀,_,S.fz hj hx,λv H' bs e hf h=>Me.nx _ _ _ _ rfl (S.set e hf (h.fl (show oO (.l ns)=true by rw [oO]; exact f)))⟩) λ_ e=>e ▸ hr
theorem wy {X:Cx} {τ:List Sl} {elt tg it:Expr} {ifs:List Expr} {pos p spos:Pos} {scope:Scope} {rest:List Stmt} {N:Po} {ns:List Nd} (i:Nat) {n:Str} (hN:X.N.Nodup) (h:sY X elt tg it ifs scope τ ns) (hr:PSs X rest (dS X.K (τ.set i (.n (.l ns))) N))
   (hi:X.N[i]?=some n:=by rfl) (hl:Loc X.env.scope n:=by first | exact .inl rfl | exact .inr rfl)
   (hsw:swapsWith (.ListComp elt [⟨tg,it,ifs,0⟩] scope pos) (some (.Name n p)) spos.line X.env=pure true:=by rfl) (hf:X.fn n=true\/X.env.scope.names.lookup n=some .local:=by first | exact .inl rfl | exact .inr rfl | assumption) :
   PSs X (.Assign [.Name n p] (.ListComp elt [⟨tg,it,ifs,0⟩] scope pos) spos :: rest) (dS X.K τ N):=by
 obtain ⟨In,caps,N',wi,h1,h2,h3,h4⟩:=h.ex
 exact a7 (M:=(·=τ.set i (.n (.l ns)))) (psW (Ev.gf (cF (i:=i) hN hi hl hf) h1 h2 h.hs h3 hsw) λD σ H ⟨A,H₀,B,S,Me⟩=>h4 true _ _ _ ⟨A,H₀,B,S,λv H' bs e hf h=>Me.nx _ _ _ _ rfl (S.set e hf h)⟩) λ_ e=>e ▸ hr
end Hy
namespace Hy
open PySem PySem.Spec PyProof.Rows L2
open Ev (D Den aq ak ba aM)
section
variable {X:Cx} {C:Bool} {τ:List Sl} {x y z:D} {a b e o ix:Expr} {es:List Expr} {pos p q:Pos} {k:Nat} {s:Sl} {N:Po} {rest:List Stmt} {i j:Nat} {t c:Nd} {pt:List Nat} {xs:List Nd} {m:Nat}
theorem set_same {α:Type} {xs:List α} {i:Nat} {y:α} (h:xs[i]?=some y):xs.set i y=xs:=by
 obtain ⟨h1,h2⟩:=List.getElem?_eq_some_iff.mp h
 rw [<- h2]
 exact List.set_getElem_self h1
end
end Hy
namespace Hy
open PySem PySem.Spec PyProof.Rows L2
open Ev (D Den aq)
section
variable {K:PySem.W.Frag} {A:Addr->Prop} {H₀ H H':Hp} {τ:List Sl} {B:Nat->List Addr} {σ:L2.St}
end
section
variable {X:Cx} {τ:List Sl} {x y z:D} {a b e c:Expr} {es:List Expr} {pos p q:Pos} {k:Nat} {s:Sl} {ds:List D} {N:Po} {rest body:List Stmt}
end
section
variable {P:Program} {w:World} {K:PySem.W.Frag} {mg:Str->Option Value} {base:Heap}
end
section
variable {X:Cx} {τ:List Sl} {es:List Expr} {pos p q pr:Pos} {k:Nat} {s:Sl} {ds:List D} {N:Po} {rest:List Stmt}
end
end Hy
namespace Ev
open PySem PySem.Spec PyProof.Rows L2
section
variable {K:Type} [DecidableEq K] {a:KD K} {hd:a.dep<=7} {X:Cx} {o i e f:Expr} {pos apos cpos:Pos} {td ty tx tk tv:TE}
end
end Ev
namespace Hy
open PySem PySem.Spec PyProof.Rows L2
open Ev (D Den aq KD NEs Bx ak)
section
variable {K:Type} [DecidableEq K] {a:KD K} {hd:a.dep<=7} {X:Cx} {C:Bool} {τ:List Sl} {x y:D} {b e f o ix:Expr} {pos p q apos cpos:Pos} {k:Nat} {N:Po} {rest:List Stmt} {m:List (K × D)} {key:K}
end
end Hy
namespace Hy
open PySem PySem.Spec PyProof.Rows L2
open Ev (D Den aq ak aH fu dg PTs cE eh)
section
variable {X:Cx}
end
section
variable {X:Cx} {C:Bool} {τ:List Sl} {e it:Expr} {pos p q p2 pos2 tp ip vp rp ap cp p1:Pos} {k:Nat} {N:Po} {rest:List Stmt} {scope:Scope}
theorem vI {α β:Type} (g:α->β):∀ (xs:List α) (i:Nat),(xs.eraseIdx i).map g=(xs.map g).eraseIdx i
 | [],_=>rfl
 | _ :: _,0=>rfl
 | x :: xs,i + 1=>by rw [List.map_cons,List.eraseIdx_cons_succ,List.eraseIdx_cons_succ,List.map_cons,vI g xs i]
end
end Hy
namespace Hy
open PySem PySem.Spec PyProof.Rows L2
open Ev (D Den aq ak ba aM)
section
variable {X:Cx}
theorem vc {α:Type}:∀ (its:List α) (k:Nat) (y:α),k<=its.length->its.insertIdx k y=its.take k++[y]++its.drop k
 | _,0,_,_=>rfl
 | a :: r,k + 1,y,h=>by
   rw [List.insertIdx_succ_cons,vc r k y (by simpa using h)]
   rfl
theorem y8 {its:List Value} {k:Nat} {y:Value} (h:k<=its.length):(its.toArray.extract 0 k).push y++its.toArray.extract k=(its.insertIdx k y).toArray:=by
 apply Array.toList_inj.mp
 simp only [Array.toList_append,Array.toList_push,Array.toList_extract,List.extract_eq_drop_take,List.drop_zero,Nat.sub_zero,List.size_toArray]
 rw [vc its k y h]
 congr 1
 exact List.take_of_length_le (by rw [List.length_drop]; exact Nat.le_refl _)
noncomputable def wz:V->List V->Hp->VK->Prop:=λx vs H Q=>∃ l xs,∃ i:Int,∃ y,x=.ref l/\vs=[.int i,y]/\H l=some (.lst xs)/\0<=i/\i.toNat<=xs.length/\xs.length < sizeLine/\Q .non (upd H l (.lst (xs.insertIdx i.toNat y)))
theorem sH:MtM X "list.insert" wz:=by
 intro pins s σ H x vs v us Q I rx rv h
 obtain ⟨l,xs,i,y,rfl,rfl,hH,h0,h1,h2,q⟩:=h
 cases rx
 obtain ⟨u,w,rfl,ru,rw'⟩:=rv.two
 obtain ⟨t,rfl⟩:=ru
 obtain ⟨z,its,n,r,hl,e⟩:=I.wu hH
 have hi:i < 2 ^ 63:=by have:=Int.toNat_of_nonneg h0; have:sizeLine < 2 ^ 62:=(by decide); omega
 have hf:Builtin.List.listFitsIndex i=true:=by
   unfold Builtin.List.listFitsIndex
   rw [Bool.and_eq_true]
   exact ⟨decide_eq_true (by omega),decide_eq_true hi⟩
 refine call_meets PySem.F.slot_list_insert ⟨_,e,rfl⟩ PySem.F.entry_list_insert (PySem.F.args_list_insert_3 _ _ _) (PySem.AutoSeq1.list_insert_list_int_val_1 l its.toArray n i t w (by simp [hf]) (by rw [List.size_toArray]; omega)) ⟨e,?_⟩
 have vi:∀ {xs:List V} {us:List Value} (k:Nat) {a:V} {b:Value},Vals xs us->RelV a b->Vals (xs.insertIdx k a) (us.insertIdx k b):=λ{xs us} k {a b} r ra=>by
   induction k generalizing xs us with
   | zero=>exact .cons ra r
   | succ k ih=>cases r with
     | nil=>exact .nil
     | cons r1 r2=>exact .cons r1 (ih r2)
 refine ⟨.non,_,I.wI (its':=its.insertIdx i.toNat w) hH e ?_ (vi _ r rw') ?_,rfl,q⟩
 · show (its.toArray.extract 0 (if i < 0 then (i + (its.toArray.size:Int)).toNat else min i.toNat its.toArray.size)).push w++its.toArray.extract (if i < 0 then (i + (its.toArray.size:Int)).toNat else min i.toNat its.toArray.size)=_
   rw [if_neg (by omega),List.size_toArray,Nat.min_eq_left (by omega)]
   exact y8 (by omega)
 · rw [List.length_insertIdx_of_le_length h1]; omega
end
section
variable {X:Cx} {C:Bool} {τ:List Sl} {x y z:D} {a b e f o ix:Expr} {es:List Expr} {pos p q:Pos} {k:Nat} {s:Sl} {N:Po} {rest:List Stmt} {i:Nat} {t c:Nd} {pt:List Nat} {xs:List Nd} {j:Int} {m:Nat}
end
end Hy
namespace Hy
open PySem PySem.Spec PyProof.Rows L2
open Ev (D Den aq ak)
theorem l9 {K:PySem.W.Frag} {H:Hp}:∀ {vs:List V} {ds:List D} (j:Nat),aq K H vs ds->aq K H (vs.eraseIdx j) (ds.eraseIdx j)
 | _,_,_,.nil=>.nil
 | _,_,0,.cons _ r=>r
 | _,_,j + 1,.cons h r=>.cons h (l9 j r)
theorem rL {K:PySem.W.Frag} {H:Hp} {v:V} {x:D} (h:Den K H v x):∀ {vs:List V} {ds:List D} (j:Nat),aq K H vs ds->aq K H (vs.insertIdx j v) (ds.insertIdx j x)
 | _,_,0,r=>.cons h r
 | _,_,_ + 1,.nil=>.nil
 | _,_,j + 1,.cons h1 r=>.cons h1 (rL h j r)
section
variable {X:Cx} {τ:List Sl} {a b:Expr} {pos p q:Pos} {N:Po} {rest:List Stmt}
theorem Ce (i:Nat) {n:Str} {xs:List D} {ap cp ap2 cp2:Pos} {k j:Nat} (x:D) (ha:PE X a (dE X.K false τ (.d (.int (k:Nat))))) (hb:PE X b (dE X.K false τ (.d (.int (j:Nat))))) (hj:xs[j]?=some x) (hk:k < xs.length) (hl:xs.length < 1000000) (hr:PSs X rest (dS X.K (τ.set i (.o ((xs.eraseIdx j).insertIdx k x))) N)) (hi:τ[i]?=some (.o xs):=by rfl) (hN:X.N[i]?=some n:=by rfl)
   (hv:Vis X.env.scope n:=by first | exact Or.inl rfl | exact Or.inr (Or.inl rfl) | exact Or.inr (Or.inr rfl)) (hd:(n == ("__debug__" : Str))=false:=by decide) (hcd:(n == ("__classdict__" : Str))=false:=by decide)
   (hfew:((backTo cp (starEach [a,.Call (.Attribute (.Name n q) "pop" ap2) [b] [] cp2] X.env)).all (λx=>!x.1) && (backToKw cp (keywordEach [] X.env)).all (λx=>x.1.isSome) && decide (([a,.Call (.Attribute (.Name n q) "pop" ap2) [b] [] cp2]:List Expr).length + ([]:List Keyword).length + (if ([]:List Keyword).isEmpty then 0 else 1) < 30))=true:=by rfl)
   (hline:(ap.endLine == cp.line)=true:=by rfl) (hst:starEach [a,.Call (.Attribute (.Name n q) "pop" ap2) [b] [] cp2] X.env=(false,eval a X.env) :: starEach [.Call (.Attribute (.Name n q) "pop" ap2) [b] [] cp2] X.env:=by rfl)
   (hst2:starEach [.Call (.Attribute (.Name n q) "pop" ap2) [b] [] cp2] X.env=(false,eval (.Call (.Attribute (.Name n q) "pop" ap2) [b] [] cp2) X.env) :: starEach [] X.env:=by rfl) (hpl:(backTo cp (starEach [.Call (.Attribute (.Name n q) "pop" ap2) [b] [] cp2] X.env)).any (·.1)=false:=by rfl)
   (hs:swapsWith (.Call (.Attribute (.Name n p) "insert" ap) [a,.Call (.Attribute (.Name n q) "pop" ap2) [b] [] cp2] [] cp) none pos.line X.env=pure false:=by rfl) (hbase:attributeBase (.Name n p) "insert" X.env (eval (.Name n p) X.env)=eval (.Name n p) X.env:=by rfl)
   (hfew2:((backTo cp2 (starEach [b] X.env)).all (λx=>!x.1) && (backToKw cp2 (keywordEach [] X.env)).all (λx=>x.1.isSome) && decide (([b]:List Expr).length + ([]:List Keyword).length + (if ([]:List Keyword).isEmpty then 0 else 1) < 30))=true:=by rfl) (hline2:(ap2.endLine == cp2.line)=true:=by rfl)
   (hst3:starEach [b] X.env=(false,eval b X.env) :: starEach [] X.env:=by rfl) (hpl2:(backTo cp2 (starEach [] X.env)).any (·.1)=false:=by rfl) (hbase2:attributeBase (.Name n q) "pop" X.env (eval (.Name n q) X.env)=eval (.Name n q) X.env:=by rfl) :
   PSs X (.Expr (.Call (.Attribute (.Name n p) "insert" ap) [a,.Call (.Attribute (.Name n q) "pop" ap2) [b] [] cp2] [] cp) pos :: rest) (dS X.K τ N):=
 a7 (M:=(·=τ.set i (.o ((xs.eraseIdx j).insertIdx k x)))) (psW (gu (rQ PySem.F.plainAttrs_list PySem.F.slot_list_insert PySem.F.type_list_insert sH (bT hN hv hd hcd)
     (bF ha (bF (rQ PySem.F.plainAttrs_list PySem.F.slot_list_pop PySem.F.type_list_pop uZ (bT hN hv hd hcd) (bF hb dC hst3) hbase2 hfew2 hline2 hst3 hpl2) dC hst2) hst) hbase hfew hline hst hpl) hs) λDn σ H ⟨A,H₀,B,S,Me⟩=>by
   obtain ⟨l,vs,hbb,e1,e2,d⟩:=S.sl i _ hi
   have hjl:j < xs.length:=(List.getElem?_eq_some_iff.mp hj).1
   refine ⟨_,slot_of e1,.inl ⟨rfl,_,SqL.of e2⟩,aQ S λw1 H1 f1 g1=>?_⟩
   cases g1
   have S1:=S.mono f1
   refine ⟨_,slot_of e1,.inl ⟨rfl,_,SqL.of (f1 _ _ e2)⟩,aQ S1 λw2 H2 f2 g2=>?_⟩
   cases g2
   have S2:=S1.mono f2
   obtain ⟨l',vs',hb',e1',e2',d'⟩:=S2.sl i _ hi
   rw [e1] at e1'
   cases e1'
   have hln:=d'.length
   obtain ⟨v,hv1,dv⟩:=d'.get hj
   refine ⟨l,vs',(j:Int),j,v,rfl,rfl,e2',by omega,by omega,PySem.StrLaws.seqIndex_nonneg (by omega) (by omega),hv1,?_⟩
   have hel:(vs'.eraseIdx j).length=xs.length - 1:=by rw [List.length_eraseIdx_of_lt (by omega),hln]
   refine ⟨l,vs'.eraseIdx j,(k:Int),v,rfl,rfl,aJ,by omega,by rw [Int.toNat_natCast]; omega,by rw [hel]; have:sizeLine > 1000000:=(by decide); omega,?_⟩
   rw [Int.toNat_natCast]
   have eu:upd (upd H2 l (.lst (vs'.eraseIdx j))) l (.lst ((vs'.eraseIdx j).insertIdx k v))=upd H2 l (.lst ((vs'.eraseIdx j).insertIdx k v)):=by
     funext z
     unfold upd
     split <;> rfl
   rw [eu]
   exact Me.nx _ _ _ _ rfl (S2.put hi hb' (rL dv k (l9 j d')))) λ_ e=>e ▸ hr
end
end Hy
namespace Ev
open PySem PySem.Spec PyProof.Rows L2
section
variable {prog:Program} {w:World} {A:Around} {E:Value->Shared->Prop} {s:Shared} {d it:Addr} {o:Obj} {es:Array DictEntry} {ep i:Nat}
end
section
variable {K:Type} [DecidableEq K] {a:KD K} {hd:a.dep<=7} {X:Cx} {pins:List (Addr × Obj)} {σ:L2.St} {H:Hp} {s:Shared} {d:Addr} {xs:NEs K} {ob:Obj}
end
section
variable {K:Type} [DecidableEq K] {a:KD K} {hd:a.dep<=7} {X:Cx} {tg l o i:Expr} {tl td ty:TE} {pos:Pos}
end
end Ev
namespace Hy
open PySem PySem.Spec PyProof.Rows L2
open Ev (D Den aq KD NEs Bx ak)
section
variable {K:Type} [DecidableEq K] {a:KD K} {hd:a.dep<=7} {X:Cx} {C:Bool} {τ:List Sl} {x y:D} {b e f o ix tg:Expr} {pos p q apos cpos:Pos} {k:Nat} {N:Po} {rest:List Stmt} {m:List (K × D)} {key:K}
end
end Hy
namespace Ev
open PySem PySem.Spec PyProof.Rows L2
section
variable {X:Cx} {o e f g:Expr} {pos apos cpos:Pos} {td te tf tg:TE}
end
section
variable {X:Cx} {tg l:Expr} {tl:TE}
end
end Ev
namespace Hy
open PySem PySem.Spec PyProof.Rows L2
open Ev (D Den aq ak)
section
variable {X:Cx} {C:Bool} {τ:List Sl} {o e f g a b:Expr} {pos apos cpos p p2:Pos} {z w v:Str} {k:Nat} {xs:List D}
end
end Hy
namespace Tx
open PySem
noncomputable def inj (c:Nat):List (List Nat)->List Nat
 | []=>[]
 | [a]=>a
 | a :: b :: r=>a++c :: inj c (b :: r)
noncomputable def cs (x:Str):List Nat:=x.cps.toList
noncomputable def ch (c:Nat):Str:=⟨#[c]⟩
end Tx
namespace Hx
open PySem PySem.Spec PyProof.Rows
noncomputable def Fly (old:Addr->Prop) (e C:Addr) (fl:Value) (h:Heap):Prop:=
 ∃ oe vs T oT ts,(¬ old e/\∀ b,old b->∃ u,h.get? b=some u)/\h.get? e=some oe/\(oe.cls=.ref C/\oe.dict=none)/\oe.data=.fields vs/\vs[2]?=some .none/\vs[1]?=some (.ref T)/\¬ old T/\T ≠ e/\h.get? T=some oT/\oT.data=.fields ts/\ts[3]?=some fl
structure Kp (old:Addr->Prop) (fs:List Addr) (h h':Heap):Prop where
 keep:∀ b o,old b->b ∉ fs->h.get? b=some o->h'.get? b=some o
 slot:∀ b o,old b->h.get? b=some o->∃ sl,h'.get? b=some { o with slots:=sl }
theorem tY (f:Array Value->Array Value) (o:Obj):(Obj.mapFields f o).dict=o.dict:=by
 obtain ⟨c,d,dt,sl⟩:=o
 cases dt <;> rfl
theorem Kp.trans {old:Addr->Prop} {fs:List Addr} {h h1 h2:Heap} (a:Kp old fs h h1) (b:Kp old fs h1 h2):Kp old fs h h2:=
 ⟨λx o q n e=>b.keep x o q n (a.keep x o q n e),λx o q e=>let ⟨_,e1⟩:=a.slot x o q e; let ⟨sl,e2⟩:=b.slot x _ q e1; ⟨sl,e2⟩⟩
theorem Kp.of {old:Addr->Prop} {fs:List Addr} {h h':Heap} (k:∀ b o,old b->h.get? b=some o->h'.get? b=some o):Kp old fs h h':=⟨λb o q _ e=>k b o q e,λb o q e=>⟨o.slots,k b o q e⟩⟩
section
variable {M:Model} {A:Around} {E:Value->Shared->Prop} {s:Shared}
theorem lW {old:Addr->Prop} {base:Heap} {env:Env} {outer:List Env} {L e C:Addr} {oe:Obj} {vs:Array Value} {head:Value} {more:Bool} {Q:Unit->Shared->Prop} (fr:A.frames=some (env :: outer)) (ff:s.heap.FunFrames base (env :: outer)) (fl:env.frame=some L)
   (he:s.heap.get? e=some oe) (hc:oe.cls=.ref C/\oe.dict=none) (hd:oe.data=.fields vs) (h1:1 < vs.size) (h2:vs[2]?=some .none) (l1:¬ old e/\∀ b,old b->∃ u,s.heap.get? b=some u)
   (k:∀ h',Kp old ((env :: outer).filterMap (·.frame)) s.heap h'->Fly old e C (rawInt L) h'->Q () { s with heap:=h' }) :
   wpAny M A (do let f <- frameOf env; let p <- entryPlaceOf L more; let t <- EntryCells.newEntry head f .none (rawInt L) .none p; setField (.ref e) 1 t) Q E s:=by
 have ne:e ∉ (env :: outer).filterMap (·.frame):=λm=>by
   obtain ⟨_,o,g,d⟩:=ff.mem m
   rw [he] at g; cases g
   exact d vs hd
 refine wpAny_bind (wpAny_frameOf_fun fr ff fl λg1 sl=>wpAny_bind (wpAny_entryPlaceOf λp hp=>?_))
 unfold EntryCells.newEntry newFields
 refine wpAny_bind (wpAny_newObj_type ?_ (hp.sizeOk5 _ _ _ _ _))
 have e1:g1.get? e=some oe:=(sl.2.1 e ne).trans he
 have lT:¬ old g1.objs.size:=λz=>by
   obtain ⟨u,g⟩:=l1.2 _ z
   have:=Heap.lt_size g
   rw [<- sl.1] at this
   exact Nat.lt_irrefl _ this
 generalize hT:({ cls:=.type "traceback",dict:=none,data:=.fields ([head,.ref L,.none,rawInt L,.none]++(if p.isEmpty then List.replicate 6 Value.none else p)).toArray }:Obj)=oT
 have e2:(g1.push oT).get? e=some oe:=Heap.get?_push_of_some oT e1
 refine wpAny_setField e2 hd h1 ?_
 have nT:g1.objs.size ≠ e:=Nat.ne_of_gt (Heap.lt_size e1)
 have d3:=Obj.data_mapFields hd (·.setIfInBounds 1 (Value.ref g1.objs.size))
 have fy:∀ b o,old b->g1.get? b=some o->((g1.push oT).update e (Obj.mapFields (·.setIfInBounds 1 (Value.ref g1.objs.size)))).get? b=some o:=λb o q g=>by
   rw [Heap.get?_update_other _ _ (show e ≠ b from λz=>l1.1 (by rw [z]; exact q))]
   exact Heap.get?_push_of_some oT g
 refine k _ ⟨λb o q n g=>fy b o q ((sl.2.1 b n).trans g),λb o q g=>?_⟩ ?_
 · obtain ⟨z,w⟩:=sl.2.2 b o g
   exact ⟨z,fy b _ q w⟩
 · refine ⟨_,_,g1.objs.size,oT,_,⟨l1.1,λb q=>?_⟩,Heap.get?_update_self _ e2 (Obj.isFreed_of_fields d3),⟨(Obj.cls_mapFields _ _).trans hc.1,(tY _ _).trans hc.2⟩,d3,?_,?_,lT,nT,?_,by rw [<- hT],?_⟩
   · obtain ⟨u,g⟩:=l1.2 b q
     obtain ⟨z,w⟩:=sl.2.2 b u g
     exact ⟨_,fy b _ q w⟩
   · rw [Array.getElem?_setIfInBounds_ne (by decide)]; exact h2
   · simp [h1]
   · rw [Heap.get?_update_other _ _ (Ne.symm nT)]
     exact Heap.get?_push_size g1 (by rw [<- hT]; rfl)
   · first | (simp; done) | (rcases hp with rfl | ⟨_,_,_,_,_,_,_,rfl⟩ <;> simp)
theorem p7 {old:Addr->Prop} {base:Heap} {env:Env} {outer:List Env} {L e C:Addr} {oe:Obj} {vs:Array Value} {Q:Unit->Shared->Prop} (fr:A.frames=some (env :: outer)) (ff:s.heap.FunFrames base (env :: outer)) (fl:env.frame=some L)
   (he:s.heap.get? e=some oe) (hc:oe.cls=.ref C/\oe.dict=none) (hd:oe.data=.fields vs) (h1:vs[1]?=some .none) (h2:vs[2]?=some .none) (l1:¬ old e/\∀ b,old b->∃ u,s.heap.get? b=some u)
   (k:∀ h',Kp old ((env :: outer).filterMap (·.frame)) s.heap h'->Fly old e C (rawInt L) h'->Q () { s with heap:=h' }):wpAny M A (noteFrame (.ref e) env) Q E s:=by
 unfold noteFrame
 simp only [fl]
 refine wpAny_bind (wpAny_field he hd h1 ?_)
 rw [if_neg (by decide)]
 exact lW fr ff fl he hc hd (Array.getElem?_eq_some_iff.mp h1).1 h2 l1 k
theorem lr {old:Addr->Prop} {base:Heap} {env:Env} {outer:List Env} {L e C:Addr} {Q:Unit->Shared->Prop} (fr:A.frames=some (env :: outer)) (ff:s.heap.FunFrames base (env :: outer)) (fl:env.frame=some L) (y:Fly old e C .none s.heap)
   (k:∀ h',Kp old ((env :: outer).filterMap (·.frame)) s.heap h'->Fly old e C (rawInt L) h'->Q () { s with heap:=h' }):wpAny M A (noteFrame (.ref e) env) Q E s:=by
 obtain ⟨oe,vs,T,oT,ts,l1,he,hc,hd,h2,h1,lT,nT,gT,dT,h3⟩:=y
 unfold noteFrame
 simp only [fl]
 refine wpAny_bind (wpAny_field he hd h1 ?_)
 rw [if_pos (by simp)]
 refine wpAny_bind (wpAny_field gT dT h3 ?_)
 rw [if_neg (by simp [rawInt])]
 refine wpAny_bind (wpAny_setField gT dT (Array.getElem?_eq_some_iff.mp h3).1 ?_)
 have oth:∀ b,b ≠ T->(s.heap.update T (Obj.mapFields (·.setIfInBounds 3 Value.none))).get? b=s.heap.get? b:=λb n=>Heap.get?_update_other _ _ (Ne.symm n)
 have kp:Kp old ((env :: outer).filterMap (·.frame)) s.heap (s.heap.update T (Obj.mapFields (·.setIfInBounds 3 Value.none))):=Kp.of λb o q g=>(oth b λz=>lT (z ▸ q)).trans g
 refine lW (base:=base) fr (ff.of_keeps λb o g d=>⟨o,(oth b λz=>?_).trans g,rfl⟩) fl ((oth e (Ne.symm nT)).trans he) hc hd (Array.getElem?_eq_some_iff.mp h1).1 h2 ⟨l1.1,λb q=>let ⟨u,g⟩:=l1.2 b q; ⟨u,(oth b λz=>lT (z ▸ q)).trans g⟩⟩ λh' a y'=>k h' (kp.trans a) y'
 rw [z,gT] at g; cases g
 exact d ts dT
theorem land {old:Addr->Prop} {fs:List Addr} {e C:Addr} {f:Value} {Q:Unit->Shared->Prop} (y:Fly old e C f s.heap) (k:∀ h',Kp old fs s.heap h'->Fly old e C .none h'->Q () { s with heap:=h' }):wpAny M A (setFlight (.ref e) none) Q E s:=by
 obtain ⟨oe,vs,T,oT,ts,l1,he,hc,hd,h2,h1,lT,nT,gT,dT,h3⟩:=y
 have z3:=(Array.getElem?_eq_some_iff.mp h3).1
 refine wpAny_setFlight_none he hd h1 gT dT z3 ?_
 have oth:∀ b,b ≠ T->(s.heap.update T (Obj.mapFields (·.setIfInBounds 3 Value.none))).get? b=s.heap.get? b:=λb n=>Heap.get?_update_other _ _ (Ne.symm n)
 refine k _ (Kp.of λb o q g=>(oth b λz=>lT (z ▸ q)).trans g) ?_
 exact ⟨oe,vs,T,_,_,⟨l1.1,λb q=>let ⟨u,g⟩:=l1.2 b q; ⟨u,(oth b λz=>lT (z ▸ q)).trans g⟩⟩,(oth e (Ne.symm nT)).trans he,hc,hd,h2,h1,lT,nT,Heap.get?_update_self _ gT (Obj.isFreed_of_fields (Obj.data_mapFields dT _)),Obj.data_mapFields dT _,by simp [z3]⟩
theorem oH {old:Addr->Prop} {base:Heap} {env:Env} {outer:List Env} {L e C:Addr} {oe:Obj} {vs:Array Value} {Q:Unit->Shared->Prop} (fr:A.frames=some (env :: outer)) (ff:s.heap.FunFrames base (env :: outer)) (fl:env.frame=some L)
   (he:s.heap.get? e=some oe) (hc:oe.cls=.ref C/\oe.dict=none) (hd:oe.data=.fields vs) (h1:vs[1]?=some .none) (h2:vs[2]?=some .none) (l1:¬ old e/\∀ b,old b->∃ u,s.heap.get? b=some u)
   (k:∀ h',Kp old ((env :: outer).filterMap (·.frame)) s.heap h'->Fly old e C .none h'->Q () { s with heap:=h' }):wpAny M A (leaving env (.ref e)) Q E s:=by
 unfold leaving
 refine wpAny_bind (p7 fr ff fl he hc hd h1 h2 l1 λh' a y=>?_)
 exact land (s:={ s with heap:=h' }) y λh'' b y'=>k h'' (a.trans b) y'
theorem pS {old:Addr->Prop} {base:Heap} {env:Env} {outer:List Env} {L e C:Addr} {Q:Unit->Shared->Prop} (fr:A.frames=some (env :: outer)) (ff:s.heap.FunFrames base (env :: outer)) (fl:env.frame=some L) (y:Fly old e C .none s.heap)
   (k:∀ h',Kp old ((env :: outer).filterMap (·.frame)) s.heap h'->Fly old e C .none h'->Q () { s with heap:=h' }):wpAny M A (leaving env (.ref e)) Q E s:=by
 unfold leaving
 refine wpAny_bind (lr fr ff fl y λh' a y'=>?_)
 exact land (s:={ s with heap:=h' }) y' λh'' b y2=>k h'' (a.trans b) y2
theorem Fly.at {old:Addr->Prop} {e C:Addr} {f:Value} {h:Heap} (y:Fly old e C f h):∃ o vs,h.get? e=some o/\(o.cls=.ref C/\o.dict=none)/\o.data=.fields vs/\vs[2]?=some .none/\¬ old e:=by
 obtain ⟨oe,vs,T,oT,ts,l1,he,hc,hd,h2,_⟩:=y
 exact ⟨oe,vs,he,hc,hd,h2,l1.1⟩
end
end Hx
namespace Hx
open PySem PySem.Spec PySem.Calls PyProof.Rows PySem.W
structure dY (K:Frag) (D:Addr):Prop where
 cls:(clsIn K D).isSome=true
 ga:findIn K (.ref D) "__getattribute__" = some (some (.builtin "BaseException.__getattribute__"))
 gt:findIn K (.ref D) "__getattr__" = some none
 at_:findIn K (.ref D) "__class__" = some (some (.builtin "object.__class__"))
 get:specialIn K (.builtin "object.__class__") "__get__" = some (some (.builtin "getset_descriptor.__get__"))
 tk:takesIn K (.builtin "object.__class__")=some true
 obj:mroIn K D (.type "object")=some true
 exc:mroIn K D (.type "BaseException")=some true
section
variable {prog:Program} {w:World} {A:Around} {E:Value->Shared->Prop} {s:Shared} {K:Frag} {x D:Addr} {ox:Obj}
theorem xF:builtinKind "BaseException.__getattribute__" = some .slot:=by decide +kernel
theorem t9:splitId "BaseException.__getattribute__" = some ("BaseException","__getattribute__"):=by decide +kernel
theorem oJ (c:dY K D):findObj K D none "__class__" = some (.bind (.builtin "getset_descriptor.__get__") (.builtin "object.__class__")):=by
 obtain ⟨cd,h⟩:=Option.isSome_iff_exists.mp c.cls
 unfold findObj
 rw [h,Option.bind_some,c.at_,Option.bind_some]
 simp [c.get,c.tk]
theorem tR {tk:Tok} {R:Result->Shared->Prop} (c:dY K D) (X:K.In s.heap) (I:InstAt s.heap x ox D none) (q:R (.ok (.ret (.ref D))) s) :
   wpAny (model prog w) A (Builtin.«object.__getattribute__» ⟨[.ref x,.str "__class__" tk],[]⟩) (λfin s'=>match fin with | .done f=>R (.ok f) s' | .again _=>False) E s:=by
 have lt:=I.type (M:=model prog w)
 have L3:=looks_find (M:=model prog w) X I (oJ c)
 unfold Builtin.«object.__getattribute__»
 refine wpAny_bind (wpAny_pure ?_)
 dsimp only
 refine wpAny_bind (wpAny_pure ?_)
 refine wpAny_bind (lt.here (wpAny_bind (L3.here ?_)))
 dsimp only
 show wpAny _ _ (do let v <- holding [.builtin "object.__class__"] (call (.builtin "getset_descriptor.__get__") [.builtin "object.__class__",.ref x,.ref D]); ret v) _ _ _
 refine wpAny_bind (wpAny_holding (wpAny_call (class_get X I c.obj ?_)))
 exact wpAny_pure q
theorem w6 (a b:Value):argsOk "BaseException.__getattribute__" ⟨a :: [b],[]⟩:=PySem.F.args_bexc_ga a b
theorem vo {tk:Tok} {Q:Unit->Shared->Prop} (L4:Looks (model prog w) s.heap (isInstance (.ref x) (.type "BaseException")) true) (q:Q () s):wpAny (model prog w) A (checkBuiltinCall "BaseException.__getattribute__" ⟨Value.ref x :: [.str "__class__" tk],[]⟩) Q E s:=
 check_slot (M:=model prog w) (A:=A) (E:=E) (s:=s) (i:="BaseException.__getattribute__") (owner:="BaseException") (n:="__getattribute__") (self:=.ref x) (rest:=[.str "__class__" tk]) (kw:=[]) (Q:=Q) xF t9 L4 (w6 _ _) q
theorem xi {tk:Tok} {R:Result->Shared->Prop} (c:dY K D) (X:K.In s.heap) (I:InstAt s.heap x ox D none) (q:R (.ok (.ret (.ref D))) s) :
   codeAny (model prog w) A (.call (.builtin "BaseException.__getattribute__") ⟨[.ref x,.str "__class__" tk],[]⟩) R s:=by
 refine codeAny_call_builtin PySem.F.attr_ValueError.ga.plain PySem.F.entry_bexc_ga (vo ((I.type (M:=model prog w)).andThen (looks_mroIn X c.exc)) ?_)
 refine wpAny_mono (tR (R:=R) (E:=λe s'=>R (.error e) s') c X I q) (λfin s' z=>?_) λ_ _ z=>z
 cases fin with
 | done f=>exact z
 | again c'=>exact z.elim
theorem sG {Q:Option Value->Shared->Prop} (c:dY K D) (X:K.In s.heap) (I:InstAt s.heap x ox D none) (q:Q (some (.ref D)) { s with toks:=s.toks + 1 }):wpAny (model prog w) A (getAttr? (.ref x) "__class__") Q E s:=by
 obtain ⟨hh,g,d,t,os⟩:=s
 have lt:=I.type (M:=model prog w)
 have lg:=looks_findIn (M:=model prog w) X c.ga; have lh:=looks_findIn (M:=model prog w) X c.gt
 have L3:=looks_find (M:=model prog w) X I (oJ c)
 have L4:Looks (model prog w) hh (isInstance (.ref x) (.type "BaseException")) true:=lt.andThen (looks_mroIn X c.exc)
 unfold getAttr? getAttrBy? getAttrBy; refine wpAny_bind (wpAny_mkText (wpAny_bind (wpAny_attempt (wpAny_holding (wpAny_bind (lt.at (wpAny_bind (lg.at ?_))))))))
 dsimp only
 have no:(Value.builtin "BaseException.__getattribute__" == Value.builtin "object.__getattribute__")=false:=by decide +kernel
 rw [no,Bool.and_false,if_neg Bool.false_ne_true]
 unfold getAttrByItsOwn hookBefore
 rw [if_pos (show onTheHeap (Value.ref D)=true from rfl)]
 refine wpAny_bind (lh.at (wpAny_bind (wpAny_attempt (wpAny_holding ?_))))
 unfold callGetattribute boundAndCalled
 rw [if_neg (show ¬ ((false && onTheHeap (Value.builtin "BaseException.__getattribute__"))=true) by decide),PySem.F.attr_ValueError.ga.bind]
 refine wpAny_bind (wpAny_pure ?_)
 show wpAny (model prog w) A (call (.builtin "BaseException.__getattribute__") [.ref x,.str "__class__" t]) _ _ _
 refine wpAny_call (xi c X I ?_)
 exact handed_on rfl (wpAny_pure q)
theorem vV (c:dY K D):KitX K (.ref x) (.ref D) (λh=>∃ ox,InstAt h x ox D none) where
 ty:=λ_ _ _ ⟨_,I⟩=>I.type
 it:=λ_ _ X _=>by
   obtain ⟨cd,h⟩:=Option.isSome_iff_exists.mp c.cls
   unfold clsIn at h
   split at h
   · rename_i ho
     intro B R F s1 kp z
     unfold isType loadHead; exact wpAny_bind (wpAny_loadPart (kp _ _ (X _ _ ho)) (wpAny_pure z))
   · cases h
 ne:=λg t od xs m ws X e=>by
   obtain ⟨cd,h⟩:=Option.isSome_iff_exists.mp c.cls
   refine Bool.eq_false_iff.mpr λq=>(?_:False)
   obtain rfl:D=t:=Value.ref.inj (beq_iff_eq.mp q)
   unfold clsIn at h
   split at h
   · rename_i ho
     cases (X _ _ ho).symm.trans e
   · cases h
 ca:=λX ⟨_,I⟩ k=>sG c X I k
end
end Hx
namespace Hx
open PySem PySem.Spec PySem.Calls PyProof.Rows PySem.W L2
noncomputable def nsO (o:Obj):Bool:=match o.data with | .dict es _=>es.toList.all (λe=>match e.key with | .str _ _=>true | _=>false) | _=>false
noncomputable abbrev bmV:List Value:=[.type "ValueError",.type "Exception",.type "BaseException",.type "object"]
structure zX (K:Frag) (C S:Addr):Prop where
 obj:∃ nm q N bs hdct sn sub ab col dd k0 k1 k2 k3 k5 oN,K.lookup C=some (excClassObj nm q C N bs (.ref S :: bmV) hdct sn sub ab col dd k0 k1 k2 k3 k5 "ValueError.__new__")/\K.lookup N=some oN/\nsO oN=true/\nsIn K N "__init__" = some none
 sup:∃ c0 dd cd sl oN,K.lookup S=some ⟨c0,dd,.cls cd,sl⟩/\K.lookup cd.ns=some oN/\nsO oN=true/\nsIn K cd.ns "__init__" = some none
 at_:dY K C
theorem Cz {K:Frag} {h:Heap} {N:Addr} {o:Obj} {x:Str} (X:K.In h) (e:K.lookup N=some o) (n:nsO o=true) (i:nsIn K N x=some none):∃ m,h.Ns N m/\m x=none:=by
 have e':=X _ _ e
 have q:h.isNs N=true:=by
   unfold Heap.isNs
   rw [e']
   obtain ⟨c,d,dt,sl⟩:=o
   cases dt with
   | dict es ep=>
     show es.all _=true
     rw [<- Array.all_toList]
     exact n
   | _=>cases n
 refine ⟨_,.of_isNs q,?_⟩
 unfold nsIn at i
 rw [e] at i
 unfold Heap.nsMap
 rw [e']
 obtain ⟨c,d,dt,sl⟩:=o
 cases dt with
 | dict es ep=>
   dsimp only at i ⊢
   unfold nsFind findBy
   rw [<- Array.find?_toList]
   split at i
   · cases i
   · rename_i z
     rw [z]; rfl
 | _=>rfl
section
variable {X:Cx} {x:Str} {C S:Addr} {np cpos pos:Pos} {e:Expr} {es:List Expr} {t:TA}
theorem uR (hc:X.calm=true) (hg:Gl X x) (hm:X.mg x=some (.ref C)) (O:zX X.K C S) (ha:PA X (e :: es) t) (hdb:(x == ("__debug__" : Str))=false)
   (he:starEach (e :: es) X.env=(false,eval e X.env) :: starEach es X.env) (hpl:(backTo cpos (starEach es X.env)).any (·.1)=false) :
   PS X (.Raise (some (.Call (.Name x np) (e :: es) [] cpos)) none pos) (λ_ σ H=>t σ H λvs H1=>vs.length<=sizeLine/\∀ pins s us,Inv X pins σ H1 s->∀ h' a,Heap.MadeExcOf s.heap h' a (.ref C) us->X.xe (.ref a) { s with heap:=h' }):=by
 intro pins s σ H D I q
 obtain ⟨nm,qn,N,bs,hdct,sn,sub,ab,col,dd,k0,k1,k2,k3,k5,oN,hC,hN,hn,hi⟩:=O.obj
 obtain ⟨c0,dd',cd,sl,oS,hS,hNS,hnS,hiS⟩:=O.sup
 obtain ⟨mN,nN,iN⟩:=Cz I.mod.kin hN hn hi
 obtain ⟨mS,nS,iS⟩:=Cz I.mod.kin hNS hnS hiS
 refine wpAny_Raise_call_subU (C:=C) (nm:=nm) (q:=qn) (N:=N) (bs:=bs) (bm:=.ref S :: bmV) (hdct:=hdct) (sn:=sn) (sub:=sub) (ab:=ab) (col:=col) (dd:=dd) (k0:=k0) (k1:=k1) (k2:=k2) (k3:=k3) (k5:=k5) (mN:=mN) PySem.F.excBase_ValueError (by decide) PySem.F.excBase_ValueError
   (by rw [List.contains_cons]; rw [show bmV.contains (.type "BaseException")=true by decide]; rw [Bool.or_true]) (I.ok.hd hc) (by rw [he]; exact hpl) iN (iH I hg hm ⟨rfl,?_⟩ hdb)
 rw [he]
 refine Calls.evalArgs_plain ?_
 have q':=ha cpos pins s σ H _ I q
 rw [he] at q'
 refine thn q' λus s1 ⟨vs,H1,I1,r1,l1,q1⟩=>?_
 exact ⟨rfl,by rw [<- r1.length]; exact l1,I1.kIn _ _ hC,nN.keeps I1.bk,.own (I1.kIn _ _ hS) (nS.keeps I1.bk) iS .base,λh' a m=>q1 pins s1 us I1 h' a m⟩
end
section
variable {fs fs' ch:List Addr} {H H1:Hp} {h h1 h2:Heap} {old:Addr->Prop} {P:Program} {w:World} {a:Addr}
theorem qT (u:Un fs ch H H1 h h1) (k:Kp old fs' h1 h2) (ho:∀ b o,h.get? b=some o->old b) (hf:∀ b o,h.get? b=some o->b ∈ fs'->b ∈ fs):Un fs ch H H1 h h2 where
 keep:=λb o e n nf nx=>k.keep b o (ho b o e) (λz=>nf (hf b o e z)) (u.keep b o e n nf nx)
 slot:=λb o e n f nx=>let ⟨_,z⟩:=u.slot b o e n f nx; let ⟨sl,z2⟩:=k.slot b _ (ho b o e) z; ⟨sl,z2⟩
 free:=u.free
 there:=λb o e nx=>let ⟨o',z⟩:=u.there b o e nx; let ⟨_,z2⟩:=k.slot b o' (ho b o e) z; ⟨_,z2⟩
 tups:=u.tups
 frzs:=u.frzs
 tbls:=u.tbls
theorem mK (x:HOk P w H h1) (k:Kp old fs h1 h2) (q:∀ b o,H b=some o->old b/\b ∉ fs):HOk P w H h2:=λb o e=>by
 refine (x b o e).fy (λd v hd z=>?_) (λ_ z=>z) λ_ _ z=>z
 rcases hd with rfl | hd
 · exact k.keep _ v (q _ _ e).1 (q _ _ e).2 z
 · exact k.keep d v (q _ _ hd).1 (q _ _ hd).2 z
theorem zZ {o:Obj} {x:HO} (u:Un fs [] H H1 h h2) (ha:h.get? a=none) (hn:H1 a=none):Un fs [] H (upd H1 a (.frz o x)) h h2 where
 keep:=u.keep
 slot:=u.slot
 free:=λb ob e n nx=>by
   rw [av (λz=>by rw [z,ha] at e; cases e)]
   exact u.free b ob e n nx
 there:=u.there
 tups:=λb xs e=>by have z:=u.tups b xs e; rw [av (aG z hn)]; exact z
 frzs:=λb ob v e=>by have z:=u.frzs b ob v e; rw [av (aG z hn)]; exact z
 tbls:=λb ps e=>by obtain ⟨m,z⟩:=u.tbls b ps e; exact ⟨m,by rw [av (aG z hn)]; exact z⟩
theorem xf {o:Obj} (x:HOk P w H h) (hn:H a=none) (e:h.get? a=some o):HOk P w (upd H a (.frz o (.ext λ_=>True))) h:=λb ob z=>by
 by_cases hb:b=a
 · subst hb
   rw [aJ] at z; cases z
   exact ⟨e,trivial,⟨o,e⟩,λ_ _ _ _=>trivial⟩
 · rw [av hb] at z
   exact (x b ob z).fy (λ_ _ _ q=>q) (λc q=>by rw [av (aG q hn)]; exact q) λc xs q=>by rw [av (aG q hn)]; exact q
end
theorem there {P:Program} {w:World} {H:Hp} {h:Heap} {a:Addr} {o:HO} (x:bR P w H h a o):∃ u,h.get? a=some u:=by
 cases o with
 | lst xs=>obtain ⟨_,_,_,_,e⟩:=x; exact ⟨_,e⟩
 | tup xs=>obtain ⟨_,_,_,o,e,_⟩:=x; exact ⟨_,e⟩
 | dK kvs=>obtain ⟨_,_,_,_,o,_,_,e,_⟩:=x; exact ⟨_,e⟩
 | dT kvs=>obtain ⟨_,_,_,_,o,_,_,e,_⟩:=x; exact ⟨_,e⟩
 | set S n=>obtain ⟨o,_,_,_,e,_⟩:=x; exact ⟨_,e⟩
 | ins C dx fs=>obtain ⟨_,_,_,e,_⟩:=x; exact ⟨_,e⟩
 | own y=>exact x
 | xd fs=>obtain ⟨_,⟨o,_,_,e,_⟩,_⟩:=x; exact ⟨_,e⟩
 | met f y=>exact ⟨_,x⟩
 | rng lo hi=>obtain ⟨_,_,_,e⟩:=x; exact ⟨_,e⟩
 | frz o u=>exact ⟨_,x.1⟩
 | tbl ps=>exact ⟨_,x⟩
 | ext φ=>exact x.2.1
noncomputable def CXe (P:Program) (w:World) (cl:Nat->Addr):CXT:=λouter H s E e s'=>∃ a c H',∃ old:Addr->Prop,e=.ref a/\s'.os=s.os/\AllBare s'.gens/\Un (frs outer) [] H H' s.heap s'.heap/\HOk P w H' s'.heap/\Fly old a (cl c) .none s'.heap /\
 (∀ b o,s.heap.get? b=some o->old b)/\(∀ b o,H' b=some o->old b)/\E (.ref (cl c)) none H'
section
variable {P:Program} {w:World} {K:Frag} {mg:Str->Option Value} {base:Heap} {N:List Str} {qual:Str} {scope:Scope} {f:Addr} {cd:Value} {A:Around} {outer:List Env} {s0:Shared} {H0:Hp} {E:XK} {cl:Nat->Addr}
noncomputable abbrev cxE (P:Program) (w:World) (K:Frag) (mg:Str->Option Value) (base:Heap) (N:List Str) (qual:Str) (scope:Scope) (f:Addr) (cd:Value) (A:Around) (outer:List Env) (s0:Shared) (H0:Hp) (E:XK) (cl:Nat->Addr):Cx:=kK (CXe P w cl) P w K mg base N qual scope f cd A outer s0 H0 E
theorem oI {pins:List (Addr × Obj)} {σ:L2.St} {H:Hp} {s:Shared} {c:Nat} (I:Inv (cxE P w K mg base N qual scope f cd A outer s0 H0 E cl) pins σ H s) (q:E (.ref (cl c)) none H) {h':Heap} {a:Addr} {us:List Value} (m:Heap.MadeExcOf s.heap h' a (.ref (cl c)) us) :
   (cxE P w K mg base N qual scope f cd A outer s0 H0 E cl).xe (.ref a) { s with heap:=h' }:=by
 obtain ⟨t,he,_,_⟩:=m.there
 have kp:∀ b o,s.heap.get? b=some o->h'.get? b=some o:=m.keeps
 refine oH (old:=λb=>∃ o,s.heap.get? b=some o) (base:=base) (s:={ s with heap:=h' }) I.ok.frames (I.stack.of_keeps λb o g _=>⟨o,kp b o g,rfl⟩) rfl he ⟨rfl,rfl⟩ rfl rfl rfl ⟨λ⟨o,z⟩=>(by rw [m.new] at z; cases z),λb ⟨o,z⟩=>⟨o,kp b o z⟩⟩ λh2 k y=>?_
 have k0:Kp (λb=>∃ o,s.heap.get? b=some o) (frs (cxE P w K mg base N qual scope f cd A outer s0 H0 E cl).stack) s.heap h2:=(Kp.of λb o _ z=>kp b o z).trans k
 refine ⟨a,c,H,_,rfl,I.os,I.bare,qT I.base k0 (λb o e=>I.base.there b o e (by intro z; exact absurd (show b ∈ ([]:List Addr) from z) (by simp))) (λb o e z=>?_),mK I.hok k0 λb o e=>⟨?_,λz=>?_⟩,y,λb o e=>I.base.there b o e (by intro z; exact absurd (show b ∈ ([]:List Addr) from z) (by simp)),λb o e=>?_,q⟩
 · rcases List.mem_cons.mp (I.kE b z) with z | z
   · exact absurd (Heap.lt_size e) (by rw [z]; exact Nat.lt_irrefl _)
   · exact z
 · exact there (I.hok b o e)
 · rw [I.iw b z] at e; cases e
 · exact there (I.hok b o e)
theorem tD {Ex:Nat->Hp->Prop} (hE:∀ c H,Ex c H->E (.ref (cl c)) none H):Passes (CXe P w cl) (cxE P w K mg base N qual scope f cd A outer s0 H0 E cl) (λC _ H'=>∃ c,C=.ref (cl c)/\Ex c H'):=by
 intro pins σ H s e s' I ⟨a,c,H',old,he,os,bare,un,hok,y,o1,o2,c',ec,q⟩
 subst he
 have ec:cl c=cl c':=Value.ref.inj ec
 have I':Inv (cxE P w K mg base N qual scope f cd A outer s0 H0 E cl) pins σ H' s':=I.l5 os un hok bare λb z=>absurd z (by simp)
 have oth:∀ b o,s0.heap.get? b=some o->old b:=λb o e=>by
   obtain ⟨u,g⟩:=I.base.there b o e (by intro z; exact absurd (show b ∈ ([]:List Addr) from z) (by simp))
   exact o1 b u g
 refine pS (base:=base) I'.ok.frames I'.stack rfl y λh2 k y2=>?_
 refine ⟨a,c',H',old,rfl,I'.os,I'.bare,qT I'.base k oth (λb o e z=>?_),mK I'.hok k λb o e=>⟨o2 b o e,λz=>?_⟩,by rw [<- ec]; exact y2,oth,o2,hE c' H' q⟩
 · rcases List.mem_cons.mp (I'.kE b z) with z | z
   · exact absurd (Heap.lt_size e) (by rw [z]; exact Nat.lt_irrefl _)
   · exact z
 · have:=I'.iw b z
   rw [this] at e; cases e
end
noncomputable abbrev XH (X:Cx) (a:Addr):Cx:={ X with A:=X.A.mark (some (.ref a)),calm:=false,xe:=λ_ _=>False }
section
variable {X:Cx} {pins:List (Addr × Obj)} {σ:L2.St} {H:Hp} {s:Shared} {a:Addr}
theorem x8 (ok:X.Ok):(XH X a).Ok:=⟨ok.mod,ok.kind,ok.glob,ok.blt,ok.above,ok.inj,ok.has,ok.cab,(λz=>nomatch z),ok.frames,ok.stk,ok.exf,ok.bs,ok.bsz,ok.noex,ok.exfs,ok.iZ,ok.frf⟩
theorem oE (I:Inv X pins σ H s):Inv (XH X a) pins σ H s:=⟨x8 I.ok,I.os,I.bare,I.base,I.loc,I.cell,I.free,I.freeC,I.pin,I.hok,I.len⟩
theorem qc (ok:X.Ok) (I:Inv (XH X a) pins σ H s):Inv X pins σ H s:=⟨ok,I.os,I.bare,I.base,I.loc,I.cell,I.free,I.freeC,I.pin,I.hok,I.len⟩
noncomputable abbrev XP (X:Cx) (pins:List (Addr × Obj)) (E:Value->Shared->Prop):Cx:={ X with pn:=X.pn++pins,xe:=E }
theorem Bn {E:Value->Shared->Prop} (ok:X.Ok):(XP X pins E).Ok:=⟨ok.mod,ok.kind,ok.glob,ok.blt,ok.above,ok.inj,ok.has,ok.cab,ok.hd,ok.frames,ok.stk,ok.exf,ok.bs,ok.bsz,ok.noex,ok.exfs,ok.iZ,ok.frf⟩
theorem Ap {E:Value->Shared->Prop} (I:Inv X pins σ H s):Inv (XP X pins E) [] σ H s:=⟨Bn I.ok,I.os,I.bare,I.base,I.loc,I.cell,I.free,I.freeC,λp hp=>I.pin p (by simpa using hp),I.hok,I.len⟩
theorem fT {E:Value->Shared->Prop} {pl:List (Addr × Obj)} (ok:X.Ok) (I:Inv (XP X pins E) pl σ H s):Inv X pins σ H s:=⟨ok,I.os,I.bare,I.base,I.loc,I.cell,I.free,I.freeC,λp hp=>I.pin p (List.mem_append_left _ hp),I.hok,I.len⟩
theorem ya {E:Value->Shared->Prop} {D:Ends} {f:Flow} (ok:X.Ok) (h:SP (XP X pins E) [] D f s):SP X pins D f s:=by
 cases f with
 | next=>obtain ⟨σ',H',I,q⟩:=h; exact ⟨σ',H',fT ok I,q⟩
 | brk=>obtain ⟨σ',H',I,q⟩:=h; exact ⟨σ',H',fT ok I,q⟩
 | cont=>obtain ⟨σ',H',I,q⟩:=h; exact ⟨σ',H',fT ok I,q⟩
 | ret u=>obtain ⟨v,σ',H',I,r,q⟩:=h; exact ⟨v,σ',H',fT ok I,r,q⟩
theorem Aj {E:Value->Shared->Prop} {M:Model} {A:Around} {i:Nat} {n:Str} {v:V} {Q:Unit->Shared->Prop} (I:Inv X pins σ H s) (hN:X.N.Nodup) (hi:X.N[i]?=some n) (hn:X.env.scope.names.lookup n=some .local) (hv:σ[i]?=some (some v))
   (k:∀ s',Inv X pins (σ.set i none) H s'->Q () s'):wpAny M A (unbindName X.env n) Q E s:=by
 obtain ⟨m,ns,look⟩:=id I.loc
 obtain ⟨u,_,lu⟩:=look i n v hi hv (.inl hn)
 have mu:m n=some u:=by
   rcases lu with z | ⟨z | z,_⟩
   · exact z.2
   · have z:X.env.scope.names.lookup n=some .cell:=z
     rw [hn] at z; cases z
   · have z:X.env.scope.names.lookup n=some .free:=z
     rw [hn] at z; cases z
 have hcls:(X.env.scope.kind == .class || (X.env.scope.kind == .module && X.env.locals != X.env.globals))=false:=by rw [I.ok.kind]; rfl
 refine wpAny_unbindName_local hn ns mu hcls λh' x ns' sb=>?_
 obtain ⟨oL,_,_,gL,_⟩:=id ns
 have far:∀ b o,X.s₀.heap.get? b=some o->h'.get? b=s.heap.get? b:=λb o e=>sb.2 b (Nat.ne_of_lt (Nat.lt_of_lt_of_le (Heap.lt_size e) I.ok.above))
 refine k { s with heap:=h' } ⟨I.ok,I.os,I.bare,⟨λb o e n0 nf nx=>(far b o e).trans (I.base.keep b o e n0 nf nx),λb o e n0 f nx=>?_,I.base.free,λb o e nx=>?_,I.base.tups,I.base.frzs,I.base.tbls⟩,⟨_,ns',λj y w e1 e2 e3=>?_⟩,λy c e=>?_,I.free,I.freeC,λp hp=>?_,λb ob e=>?_,by simpa using I.len⟩
 · obtain ⟨sl,z⟩:=I.base.slot b o e n0 f nx
   exact ⟨sl,(far b o e).trans z⟩
 · obtain ⟨o',z⟩:=I.base.there b o e nx
   exact ⟨o',(far b o e).trans z⟩
 · have hj:j ≠ i:=λz=>by
     subst z
     rw [List.getElem?_set_self (by rw [I.len]; exact (List.getElem?_eq_some_iff.mp hi).1)] at e2
     cases e2
   rw [List.getElem?_set_ne (Ne.symm hj)] at e2
   obtain ⟨u',r',q⟩:=look j y w e1 e2 e3
   refine ⟨u',r',?_⟩
   have ne:y ≠ n:=λe=>hj (jP hN e1 (e ▸ hi))
   rcases q with ⟨z,e⟩ | ⟨z,c,e,g⟩
   · exact .inl ⟨z,by simp [ne,e]⟩
   · exact .inr ⟨z,c,e,g.sameBut sb (I.cne y c e)⟩
 · obtain ⟨w,z⟩:=I.cell y c e
   exact ⟨w,z.sameBut sb (I.cne y c e)⟩
 · obtain ⟨e,n0,ne,nf,d⟩:=I.pin p hp
   exact ⟨(sb.2 p.1 ne).trans e,n0,ne,nf,d⟩
 · refine (I.hok b ob e).fy (λc w hc q=>(sb.2 c ?_).trans q) (λ_ q=>q) λ_ _ q=>q
   rcases hc with rfl | hc
   · exact aG e I.free
   · exact aG hc I.free
end
noncomputable def vm (o:Obj) (C:Addr):Prop:=(o.cls=.ref C/\o.dict=none)/\∃ vs,o.data=.fields vs/\vs[2]?=some .none
noncomputable abbrev sN (o:Obj):HO:=.frz o (.ext λ_=>True)
section
variable {X:Cx} {cl:Nat->Addr} {ks:List Nat} {n sm:Str} {i:Nat} {S:Addr} {ret:Expr} {psm pr ph pos:Pos} {body:List Stmt} {tb:(Nat->Hp->Prop)->TS} {tr:Addr->Obj->TE}
noncomputable def ExH (ks:List Nat) (cl:Nat->Addr) (i:Nat) (tr:Addr->Obj->TE) (D:Ends):Nat->Hp->Prop:=λc H=>c ∈ ks/\∀ (σ:L2.St) a o,i < σ.length->H a=none->vm o (cl c)->tr a o (σ.set i (some (.ref a))) (upd H a (sN o)) D.rt
theorem zE (hst:X.stack=X.env :: X.outer/\X.env.frame=some X.env.locals) (nd:X.N.Nodup) (hi:X.N[i]?=some n) (hn:X.env.scope.names.lookup n=some .local) (hgS:Gl X sm) (hmS:X.mg sm=some (.ref S)) (hdb:(sm == ("__debug__" : Str))=false)
   (hx:∀ c ∈ ks,exmOne X.K (.ref (cl c)) (.ref S)=some true) (hr:∀ a o,PE (XH X a) ret (tr a o)) {pins:List (Addr × Obj)} {σ:L2.St} {H:Hp} {s s':Shared} {e:Value} {D:Ends} (I:Inv X pins σ H s)
   (h:CXe X.prog X.w cl X.stack H s (λC _ H'=>∃ c,C=.ref (cl c)/\ExH ks cl i tr D c H') e s') :
   wpAny (model X.prog X.w) X.A (noteFrame e X.env) (λ_ s2=>wpAny (model X.prog X.w) X.A (setFlight e none) (λ_ s3=>wpAny (model X.prog X.w) X.A (handleBy e X.env [.ExceptHandler (some (.Name sm psm)) (some n) [.Return (some ret) pr] ph]) (SP X pins D) X.xe s3) X.xe s2) X.xe s':=by
 obtain ⟨a,c0,H2,old,rfl,os,bare,un,hok,y,o1,o2,c,ec,hc,q⟩:=h
 have ec:cl c0=cl c:=Value.ref.inj ec
 rw [ec] at y
 have I':Inv X pins σ H2 s':=I.l5 os un hok bare λb z=>absurd z (by simp)
 have fr:X.A.frames=some (X.env :: X.outer):=by rw [<- hst.1]; exact I.ok.frames
 have ff:s'.heap.FunFrames X.base (X.env :: X.outer):=by rw [<- hst.1]; exact I'.stack
 have efs:(X.env :: X.outer).filterMap (·.frame)=frs X.stack:=by rw [hst.1]; rfl
 have tk:∀ b o,H2 b=some o->old b/\b ∉ frs X.stack:=λb o e=>⟨o2 b o e,λz=>by rw [I'.iw b z] at e; cases e⟩
 have na:s.heap.get? a=none:=by
   cases g:s.heap.get? a with
   | none=>rfl
   | some o=>exact absurd (o1 a o g) y.at.choose_spec.choose_spec.2.2.2.2
 have Ha:H2 a=none:=by
   cases g:H2 a with
   | none=>rfl
   | some o=>exact absurd (o2 a o g) y.at.choose_spec.choose_spec.2.2.2.2
 have at_:∀ {h4:Heap},Kp old (frs X.stack) s'.heap h4->Inv X pins σ H2 { s' with heap:=h4 }:=λ{h4} k=>I.l5 (s':={ s' with heap:=h4 }) os (qT un k o1 λ_ _ _ z=>z) (mK hok k tk) bare λb z=>absurd z (by simp)
 refine lr fr ff hst.2 y λh3 k3 y3=>?_
 rw [efs] at k3
 refine land (s:={ s' with heap:=h3 }) (fs:=frs X.stack) y3 λh4 k4 y4=>?_
 have k4:=k3.trans k4
 have I4:=at_ k4
 have no:∀ {α:Type} {t:Sem α} {Q:α->Shared->Prop} {A:Around} {s:Shared} {E:Value->Shared->Prop},wpAny (model X.prog X.w) A t Q (λ_ _=>False) s->wpAny (model X.prog X.w) A t Q E s:=λh=>wpAny_mono h (λ_ _ q=>q) λ_ _ q=>q.elim
 refine wpAny_handleBy_cons (codeAny_handlers_test (no (iH (X:=XH X a) (oE I4) hgS hmS ?_ hdb))) (by intro z; cases z)
 obtain ⟨oe,vs,ge,hce,hde,h2e,_⟩:=y4.at
 have LT:Looks (model X.prog X.w) h4 (typeOf (.ref a)) (.ref (cl c)):=hce.1 ▸ (Looks.ld ge).andThen .now
 refine (exm_one I4.kIn LT (hx c hc)).here ?_
 refine codeAny_handlers_suite_as (land (s:={ s' with heap:=h4 }) (fs:=frs X.stack) y4 λh5 k5 y5=>?_)
 obtain ⟨o5,vs5,g5,hc5,hd5,h25,_⟩:=y5.at
 have k5:=k4.trans k5
 have I5:Inv X pins σ (upd H2 a (sN o5)) { s' with heap:=h5 }:=I.l5 (s':={ s' with heap:=h5 }) os (zZ (qT un k5 o1 λ_ _ _ z=>z) na Ha) (xf (mK hok k5 tk) Ha g5) bare λb z=>absurd z (by simp)
 refine hX (X:=XH X a) (oE I5) nd hi (.inl hn) (v:=.ref a) rfl (λs6 I6=>?_) (.inr hn)
 refine no (thn (xr (kA (hr a o5)) pins s6 _ _ { nx:=λ_ _=>False,rt:=D.rt } I6 (q σ a o5 (by rw [I.len]; exact (List.getElem?_eq_some_iff.mp hi).1) Ha ⟨hc5,vs5,hd5,h25⟩)) λf s7 q7=>?_)
 cases f with
 | next=>obtain ⟨_,_,_,z⟩:=q7; exact z.elim
 | brk=>obtain ⟨_,_,_,z⟩:=q7; exact z.elim
 | cont=>obtain ⟨_,_,_,z⟩:=q7; exact z.elim
 | ret u=>
   obtain ⟨v,σ7,H7,I7,r7,z7⟩:=q7
   have I7:=qc I.ok I7
   refine wpAny_bind (wpAny_bindName (hX I7 nd hi (.inl hn) (v:=.non) rfl (λs8 I8=>?_) (.inr hn)))
   unfold unbindBehindTheSuite
   refine wpAny_onRaise (Aj I8 nd hi hn (v:=.non) (List.getElem?_set_self (by rw [I7.len]; exact (List.getElem?_eq_some_iff.mp hi).1)) λs9 I9=>?_)
   exact ⟨v,_,H7,I9,r7,z7⟩
theorem AG (hst:X.stack=X.env :: X.outer/\X.env.frame=some X.env.locals) (nd:X.N.Nodup) (hi:X.N[i]?=some n) (hn:X.env.scope.names.lookup n=some .local) (hgS:Gl X sm) (hmS:X.mg sm=some (.ref S)) (hdb:(sm == ("__debug__" : Str))=false)
   (hx:∀ c ∈ ks,exmOne X.K (.ref (cl c)) (.ref S)=some true) (hr:∀ a o,PE (XH X a) ret (tr a o))
   (hb:∀ (Ex:Nat->Hp->Prop) (pins:List (Addr × Obj)) (E:Value->Shared->Prop),Passes (CXe X.prog X.w cl) (XP X pins E) (λC _ H'=>∃ c,C=.ref (cl c)/\Ex c H')->PSs (XP X pins E) body (tb Ex)) :
   PS X (.Try body [.ExceptHandler (some (.Name sm psm)) (some n) [.Return (some ret) pr] ph] [] [] pos) (λD σ H=>tb (ExH ks cl i tr D) D σ H):=by
 intro pins s σ H D I h
 refine wpAny_Try_except ?_
 refine wpAny_mono (hb (ExH ks cl i tr D) pins (λe s1=>wpAny (model X.prog X.w) X.A (noteFrame e X.env) (λ_ s2=>wpAny (model X.prog X.w) X.A (setFlight e none) (λ_ s3=>wpAny (model X.prog X.w) X.A (handleBy e X.env [.ExceptHandler (some (.Name sm psm)) (some n) [.Return (some ret) pr] ph]) (SP X pins D) X.xe s3) X.xe s2) X.xe s1)
   (λpl σ1 H1 s1 e s2 I1 z=>zE hst nd hi hn hgS hmS hdb hx hr (fT I.ok I1) z) [] s σ H D (Ap I) h) (λf s1 q=>?_) λ_ _ z=>z
 have q:=ya I.ok q
 cases f with
 | next=>exact wpAny_execs_nil q
 | _=>exact q
end
end Hx
namespace Hy
open PySem PySem.Spec PyProof.Rows L2
open Ev (D Den aq ak)
noncomputable def AL:List Str:=["NoFraction","NoTable","NoChoice","NoSquare","NoFit","NoUndoing","NoLadder","TooMany","NoPaper","NoRow","NoStairs","NoNumber","NoCorner","NoName","NoStep","NoWeight","NoDeed","NoText","NoWord"]
noncomputable def wordOf (c:Nat):Str:=AL.getD c "else"
noncomputable def spX (K:PySem.W.Frag) (cl:Nat->Addr) (Φ:List D->Nat->Prop):Sp:=λvs H _ E=>∃ A ds c,(∀ b,A b->∃ o,H b=some o)/\aq K (hd H A) vs ds/\Φ ds c/\∀ H',ai H H'->E (.ref (cl c)) none H'
noncomputable def jw (P:Program) (w:World) (K:PySem.W.Frag) (mg:Str->Option Value) (base:Heap) (cl:Nat->Addr) (k:Nat) (n:Str) (Φ:List D->Nat->Prop):Prop:=
 ∃ f fd ps,aN P w K mg base (Hx.CXe P w cl) k f fd ps (spX K cl Φ)/\mg n=some (.ref f)/\PySem.W.keepIn K (.ref f)=true/\Binds K fd ps []
theorem jw.mono {P:Program} {w:World} {K:PySem.W.Frag} {mg:Str->Option Value} {base:Heap} {cl:Nat->Addr} {j k:Nat} {n:Str} {Φ:List D->Nat->Prop} (c:jw P w K mg base cl j n Φ) (h:j<=k):jw P w K mg base cl k n Φ:=
 let ⟨f,fd,ps,F,r⟩:=c; ⟨f,fd,ps,F.mono h,r⟩
noncomputable def dX (K:PySem.W.Frag) (τ:List Sl) (Ex:Hp->Prop):TE:=λσ H _=>∃ A H₀ B,Sta K A H₀ τ B σ H/\∀ H',ai H₀ H'->Ex H'
noncomputable def PsX (X:Cx) (cl:Nat->Addr) (Ex:Nat->Hp->Prop):Prop:=Passes (Hx.CXe X.prog X.w cl) X (λC _ H'=>∃ c,C=.ref (cl c)/\Ex c H')
section
variable {X:Cx} {C:Bool} {τ:List Sl} {x y z:D} {a b e:Expr} {es:List Expr} {pos p np cpos:Pos} {k c:Nat} {s:Sl} {ds:List D} {N:Po} {rest body:List Stmt} {cl:Nat->Addr} {Ex:Nat->Hp->Prop} {Et:Hp->Prop}
theorem jG {n:Str} {Φ:List D->Nat->Prop} (hr:eL k X.A) (po:PsX X cl Ex) (c0:jw X.prog X.w X.K X.mg X.base cl k n Φ) (ha:PA X (e :: es) (dA X.K C τ ds)) (h:Φ ds c) (hg:Gl X n:=by rfl) (hdb:(n == ("__debug__" : Str))=false:=by decide)
   (he:starEach (e :: es) X.env=(false,eval e X.env) :: starEach es X.env:=by rfl) (hpl:(backTo pos (starEach es X.env)).any (·.1)=false:=by rfl):PE X (.Call (.Name n p) (e :: es) [] pos) (dX X.K τ (Ex c)):=by
 obtain ⟨f,fd,ps,F,hm,hk,hb⟩:=c0
 refine peW (sf F hr hg hm hk hb .nil po ha hdb he hpl) λσ H Q ⟨A,H₀,B,S,q⟩=>eg S λvs H1 e1 d1=>?_
 rw [List.append_nil]
 exact ⟨vw C A B,ds,c,(S.mono e1).vd,d1,h,λH' e2=>⟨c,rfl,q H' ((S.same.trans e1).trans e2)⟩⟩
theorem CN (he:PE X e (dX X.K τ N.xc)):PSs X (.Return (some e) pos :: rest) (dS X.K τ N):=
 a7 (M:=λ_=>False) (psW (kA he) λD σ H ⟨A,H₀,B,S,Me⟩=>⟨A,H₀,B,S,Me.xc⟩) λ_ e=>e.elim
theorem jF (he:PE X e (dX X.K τ N.xc)) (hs:swapsWith e none pos.line X.env=pure false:=by rfl):PSs X (.Expr e pos :: rest) (dS X.K τ N):=
 a7 (M:=λ_=>False) (psW (gu he hs) λD σ H ⟨A,H₀,B,S,Me⟩=>⟨A,H₀,B,S,Me.xc⟩) λ_ e=>e.elim
noncomputable def Lv (X:Cx) (cl:Nat->Addr) (c:Nat) (Et:Hp->Prop):Prop:=∀ (pins:List (Addr × Obj)) (σ:L2.St) (H:Hp) (s:Shared),Inv X pins σ H s->Et H->∀ (h':Heap) (a:Addr) (us:List Value),Heap.MadeExcOf s.heap h' a (.ref (cl c)) us->X.xe (.ref a) { s with heap:=h' }
theorem rT {n:Str} {S:Addr} (hl:Lv X cl c N.xc) (hm:X.mg n=some (.ref (cl c))) (O:Hx.zX X.K (cl c) S) (ha:PA X (e :: es) (dA X.K false τ ds)) (hds:ds.length<=sizeLine:=by decide) (hc:X.calm=true:=by rfl) (hg:Gl X n:=by rfl) (hdb:(n == ("__debug__" : Str))=false:=by decide)
   (he:starEach (e :: es) X.env=(false,eval e X.env) :: starEach es X.env:=by rfl) (hpl:(backTo cpos (starEach es X.env)).any (·.1)=false:=by rfl):PSs X (.Raise (some (.Call (.Name n np) (e :: es) [] cpos)) none pos :: rest) (dS X.K τ N):=
 a7 (M:=λ_=>False) (psW (Hx.uR hc hg hm O ha hdb he hpl) λD σ H ⟨A,H₀,B,S,Me⟩=>eg S λvs H1 e1 d1=>⟨by rw [d1.length]; exact hds,λpins s us I h' a m=>hl pins σ H1 s I (Me.xc H1 (S.same.trans e1)) h' a us m⟩) λ_ e=>e.elim
end
section
variable {P:Program} {w:World} {K:PySem.W.Frag} {mg:Str->Option Value} {base:Heap} {cl:Nat->Addr}
theorem Dr {N ps:List Str} {A:Addr->Prop} {H:Hp} {vs:List V} {ds:List D} (ha:∀ b,A b->∃ o,H b=some o) (d:aq K (hd H A) vs ds):Sta K A H (qI N ds) (λ_=>[]) (L2.start N vs) H:=by
 refine ⟨ai.refl _,?_,λi s hi=>?_,λ_ _ z=>(nomatch z),λ_ _ _ z=>(nomatch z),ha,λ_ _ z=>(nomatch z)⟩
 · unfold L2.start qI
   simp [d.length]
 · have hl:=d.length
   unfold qI at hi
   unfold L2.start
   by_cases hlt:i < ds.length
   · rw [List.getElem?_append_left (by simpa using hlt),List.getElem?_map,List.getElem?_eq_getElem hlt] at hi
     cases hi
     obtain ⟨v,e,dv⟩:=d.get (List.getElem?_eq_getElem hlt)
     refine ⟨rfl,v,?_,dv.mono (az (ai.refl _) λ_ z=>z.elim id λ⟨_,z⟩=>(nomatch z))⟩
     rw [List.getElem?_append_left (by simpa [hl] using hlt),List.getElem?_map,e]
     rfl
   · rw [List.getElem?_append_right (by simpa using hlt),List.getElem?_replicate] at hi
     split at hi
     · cases hi; rfl
     · cases hi
noncomputable abbrev Xe (P:Program) (w:World) (K:PySem.W.Frag) (mg:Str->Option Value) (base:Heap) (N:List Str) (qual:Str) (st:Stmt) (f:Addr) (cdv:Value) (A:Around) (outer:List Env) (s:Shared) (H:Hp) (E:XK) (cl:Nat->Addr):Cx:=kK (Hx.CXe P w cl) P w K mg base N qual (ah st) f cdv A outer s H E
theorem fnX {x qual:Str} {st:Stmt} {f:Addr} {fd:FuncData} {N ps:List Str} {k:Nat} {Φ:List D->Nat->Prop} (F:Fun K x qual st f fd) (S:ax N ps (ah st)) (hb:∀ x ∈ aj,mg x=none) (len:∀ ds c,Φ ds c->ds.length=ps.length)
   (body:∀ ds c,Φ ds c->∀ cdv A outer s H E,eL k (Xe P w K mg base N qual st f cdv A outer s H E cl).A->Bk (Xe P w K mg base N qual st f cdv A outer s H E cl).nox k->PsX (Xe P w K mg base N qual st f cdv A outer s H E cl) cl (λc H'=>E (.ref (cl c)) none H')->(∀ c',Lv (Xe P w K mg base N qual st f cdv A outer s H E cl) cl c' (λH'=>E (.ref (cl c')) none H')) ->
     PSs (Xe P w K mg base N qual st f cdv A outer s H E cl) (bK st) (dS K (qI N ds) { nx:=λ_=>False,rt:=λ_=>False,xc:=λH'=>E (.ref (cl c)) none H' })) :
   aN P w K mg base (Hx.CXe P w cl) (k + 1) f fd ps (spX K cl Φ):=by
 obtain ⟨oc,od,dV,kV,doc,pm,an,cdv,ct,osl,rfl,lk,hcd⟩:=F.ex
 refine yC lk hcd S (λvs H Q E ⟨A,ds,c,_,d,h,_⟩=>d.length.trans (len ds c h)) λA outer s H vs Q E hr ⟨A',ds,c,ha,d,h,q⟩=>⟨_,body ds c h cdv A outer s H E hr ⟨hr,rfl,hb,PassesOwn.never⟩ (Hx.tD λ_ _ z=>z) (λc' pins σ H s I q h' a us m=>Hx.oI I q m),A',H,λ_=>[],Dr (ps:=ps) ha d,λ_ _ _ _ h=>h.elim,λ_ _ _ _ h=>h.elim,λ_ _ _ _ h=>h.elim,λ_ _ _ _ h=>h.elim,q⟩
end
structure yO (k:Nat) (A:Around):Prop where
 dp:A.depth + 3 * k + 5 < recursionLimit
 un:A.units + 16 * k + 200 < cLine
noncomputable def eQ (P:Program) (w:World) (K:PySem.W.Frag) (mg:Str->Option Value) (base:Heap) (cl:Nat->Addr) (k:Nat) (fw:Addr) (c:Nat):Prop:=
 ∀ (A:Around) (outer:List PySem.Env) (s:Shared) (H:Hp) (a:Addr) (o:Obj) (Q:VK),A.handled=some (.ref a)->H a=some (Hx.sN o)->Hx.vm o (cl c)->yO k A->vx P w K mg base A outer s H ->
   (∀ H',ai H H'->Q (.str (wordOf c)) H')->codeAny (model P w) A (.call (.ref fw) ⟨[.ref a],[]⟩) (CR CX0 outer P w H s Q E0) s
theorem eQ.mono {P:Program} {w:World} {K:PySem.W.Frag} {mg:Str->Option Value} {base:Heap} {cl:Nat->Addr} {j k:Nat} {f:Addr} {c:Nat} (h:eQ P w K mg base cl j f c) (q:j<=k):eQ P w K mg base cl k f c:=λA outer s H a o Q h1 h2 h3 hr=>h A outer s H a o Q h1 h2 h3 ⟨by have:=hr.dp; omega,by have:=hr.un; omega⟩
section
variable {X:Cx} {C:Bool} {τ:List Sl} {e:Expr} {k c i:Nat} {N:Po} {rest body:List Stmt} {cl:Nat->Addr} {n:Str} {fw S:Addr} {p p' q psm pr ph pos:Pos}
noncomputable def trW (cl:Nat->Addr) (c i:Nat) (a:Addr) (o:Obj):TE:=λσ H Q=>H a=some (Hx.sN o)/\Hx.vm o (cl c)/\σ[i]?=some (some (.ref a))/\∀ H',ai H H'->Q (.str (wordOf c)) H'
theorem xR {a:Addr} {o:Obj} (hg:Gl X "_law_word") (hm:X.mg "_law_word" = some (.ref fw)) (hk:PySem.W.keepIn X.K (.ref fw)=true) (hW:eQ X.prog X.w X.K X.mg X.base cl k fw c) (hr:yO k X.A)
   (hi:X.N[i]?=some n) (hn:X.env.scope.names.lookup n=some .local) (h1:(n == ("__debug__" : Str))=false) (h2:(n == ("__classdict__" : Str))=false) :
   PE (Hx.XH X a) (.Call (.Name "_law_word" p) [.Name n p'] [] q) (trW cl c i a o):=by
 intro pins s σ H Q I ⟨e1,e2,e3,z⟩
 refine wpAny_Call_Name_kw (iH I hg hm ?_ (by decide))
 refine PySem.W.callWith_K (h₀:=X.base) I.ok.mod.kin hk (thn (bF (bT (X:=Hx.XH X a) hi (.inl hn) h1 h2) dC rfl q pins s σ H (λvs H1=>vs=[.ref a]/\H1=H) I ⟨_,e3,rfl,rfl⟩) λus s1 ⟨vs,H1,I1,r1,e4,e5⟩=>⟨I1.kIn,?_⟩) rfl rfl
 subst e4
 subst e5
 cases r1 with
 | cons ra rr=>
   cases rr
   cases ra
   refine wpAny_call (codeAny_mono (hW (X.A.mark (some (.ref a))) X.stack s1 _ a o Q rfl e1 e2 ⟨hr.dp,hr.un⟩ I1.BS z) λres s' hq=>?_)
   cases res with
   | error e=>exact hq.elim
   | ok fl=>
     cases fl with
     | ret u=>exact I1.after hq
     | next=>exact False.elim hq
     | brk=>exact False.elim hq
     | cont=>exact False.elim hq
theorem y6 (B:Bk X k) (nd:X.N.Nodup) (hb:∀ (pins:List (Addr × Obj)) (E:Value->Shared->Prop) (Ex:Nat->Hp->Prop),PsX (Hx.XP X pins E) cl Ex->PSs (Hx.XP X pins E) body (dS X.K τ { nx:=λ_=>False,rt:=λ_=>False,xc:=Ex c })) (h:N.rt (.d (.str (wordOf c))))
   (hmS:X.mg "SmoothError" = some (.ref S)) (hx:PySem.W.exmOne X.K (.ref (cl c)) (.ref S)=some true) (hm:X.mg "_law_word" = some (.ref fw)) (hk:PySem.W.keepIn X.K (.ref fw)=true) (hW:eQ X.prog X.w X.K X.mg X.base cl k fw c) (i:Nat)
   (hst:X.stack=X.env :: X.outer/\X.env.frame=some X.env.locals:=by exact ⟨rfl,rfl⟩) (hi:X.N[i]?=some n:=by rfl) (hn:X.env.scope.names.lookup n=some .local:=by rfl) (hgS:Gl X "SmoothError":=by rfl) (hg:Gl X "_law_word":=by rfl) (h1:(n == ("__debug__" : Str))=false:=by decide) (h2:(n == ("__classdict__" : Str))=false:=by decide) :
   PSs X (.Try body [.ExceptHandler (some (.Name "SmoothError" psm)) (some n) [.Return (some (.Call (.Name "_law_word" p) [.Name n p'] [] q)) pr] ph] [] [] pos :: rest) (dS X.K τ N):=by
 refine a7 (M:=λ_=>False) (psW (Hx.AG (ks:=[c]) (cl:=cl) (i:=i) (tr:=trW cl c i) (tb:=λEx=>dS X.K τ { nx:=λ_=>False,rt:=λ_=>False,xc:=Ex c }) hst nd hi hn hgS hmS (by decide) (λc' hc'=>by rw [List.mem_singleton.mp hc']; exact hx) (λa o=>xR hg hm hk hW ⟨B.room.dp,B.room.un⟩ hi hn h1 h2) λEx pins E hp=>hb pins E Ex hp) λD σ H ⟨A,H₀,B,S,Me⟩=>?_) λ_ e=>e.elim
 refine ⟨A,H₀,B,S,λ_ _ _ _ h=>h.elim,λ_ _ _ _ h=>h.elim,λ_ _ _ _ h=>h.elim,λ_ _ _ _ h=>h.elim,λH' e'=>⟨List.mem_singleton.mpr rfl,λσ' a o hl Ha ho=>⟨aJ,ho,List.getElem?_set_self hl,λH2 e2=>?_⟩⟩⟩
 exact Me.rt (.str (wordOf c)) H2 [] (.d (.str (wordOf c))) h ((e'.trans (ak Ha _)).trans e2) fD (iV .str)
end
end Hy
namespace Hx
open PySem PySem.Spec PyProof.Rows L2
section
variable {X:Cx} {body:List Stmt} {h0:ExceptHandler} {hs:List ExceptHandler} {pos:Pos} {t:TS}
end
end Hx
namespace Hy
open PySem PySem.Spec PyProof.Rows L2
end Hy
namespace Hy
open PySem PySem.Spec PyProof.Rows L2
open Ev (D Den aq ak ba aM)
section
variable {X:Cx} {C:Bool} {τ:List Sl} {a b e e1 e2 e3 o:Expr} {pos p p2 tp:Pos} {k:Nat} {x x1 x2 x3:D} {N:Po} {rest:List Stmt}
theorem gU {K:PySem.W.Frag} {G H:Hp}:∀ {vs:List V} {bs:List Addr} {ds:List D},aI K G H vs bs (ds.map .d)->aq K G vs ds/\bs=[]
 | _,_,[],h=>by cases h; exact ⟨.nil,rfl⟩
 | _,_,x :: ds,h=>by
   rw [List.map_cons] at h
   cases h with
   | cons h r=>
     cases h with
     | d h=>
       obtain ⟨d1,rfl⟩:=gU r
       exact ⟨.cons h d1,rfl⟩
end
end Hy
namespace K59
open PySem PySem.Spec PyProof.Rows L2 Hy
open Ev (D Den aq aC aB)
noncomputable def ay (f:Nat->Rat):Nat->Rat
 | 0=>0
 | n + 1=>ay f n + f n
theorem au {f g:Nat->Rat}:∀ {n:Nat},(∀ k < n,f k=g k)->ay f n=ay g n
 | 0,_=>rfl
 | n + 1,h=>by rw [ay,ay,au λk hk=>h k (by omega),h n (by omega)]
theorem bf (c:Rat) (f:Nat->Rat):∀ n:Nat,c * ay f n=ay (λk=>c * f k) n
 | 0=>Rat.mul_zero c
 | n + 1=>by rw [ay,ay,Rat.mul_add,bf c f n]
theorem ie (c:Rat) (f:Nat->Rat):∀ n:Nat,ay f n * c=ay (λk=>f k * c) n
 | 0=>Rat.zero_mul c
 | n + 1=>by rw [ay,ay,Rat.add_mul,ie c f n]
theorem fS (f g:Nat->Rat):∀ n:Nat,ay (λk=>f k + g k) n=ay f n + ay g n
 | 0=>(Rat.add_zero 0).symm
 | n + 1=>by rw [ay,ay,ay,fS f g n]; grind
theorem gm:∀ n:Nat,ay (λ_=>0) n=0
 | 0=>rfl
 | n + 1=>by rw [ay,gm n,Rat.add_zero]
theorem gp (f:Nat->Nat->Rat) (m:Nat):∀ n:Nat,ay (λk=>ay (λl=>f k l) m) n=ay (λl=>ay (λk=>f k l) n) m
 | 0=>by simp only [ay]; exact (gm m).symm
 | n + 1=>by simp only [ay]; rw [gp f m n,<- fS]
noncomputable def dq (i j:Nat):Rat:=if i=j then 1 else 0
theorem oK (A:Nat->Rat) (j:Nat):∀ n:Nat,n<=j->ay (λk=>A k * dq k j) n=0
 | 0,_=>rfl
 | n + 1,h=>by
   rw [ay,oK A j n (by omega),dq,if_neg (by omega),Rat.mul_zero,Rat.add_zero]
theorem cW (A:Nat->Rat) (j:Nat):∀ n:Nat,j < n->ay (λk=>A k * dq k j) n=A j
 | n + 1,h=>by
   rw [ay]
   by_cases e:j=n
   · subst e
     rw [oK A j j (Nat.le_refl _),dq,if_pos rfl,Rat.mul_one,Rat.zero_add]
   · rw [cW A j n (by omega),dq,if_neg (by omega),Rat.mul_zero,Rat.add_zero]
theorem qD (A:Nat->Rat) (i n:Nat) (h:i < n):ay (λk=>dq i k * A k) n=A i:=by
 rw [<- cW A i n h]
 congr 1
 funext k
 rw [Rat.mul_comm,dq,dq]
 by_cases e:i=k
 · rw [if_pos e,if_pos e.symm]
 · rw [if_neg e,if_neg λz=>e z.symm]
noncomputable def skp (i r:Nat):Nat:=if r < i then r else r + 1
noncomputable def minor (M:Nat->Nat->Rat) (i r c:Nat):Rat:=M (skp i r) (c + 1)
noncomputable def sgn (i:Nat):Rat:=if i % 2=0 then 1 else -1
theorem fW (i:Nat):sgn (i + 1)=-sgn i:=by
 unfold sgn
 by_cases h:i % 2=0
 · rw [if_pos h,if_neg (by omega)]
 · rw [if_neg h,if_pos (by omega)]
   rfl
theorem zY (i:Nat):sgn i * sgn i=1:=by
 unfold sgn
 split <;> grind
noncomputable def det:Nat->(Nat->Nat->Rat)->Rat
 | 0,_=>1
 | n + 1,M=>ay (λi=>sgn i * M i 0 * det n (minor M i)) (n + 1)
theorem my {i r n:Nat} (h:r < n):skp i r < n + 1:=by unfold skp; split <;> omega
theorem Ah (i r:Nat):skp i r ≠ i:=by unfold skp; split <;> omega
theorem aE:∀ {n:Nat} {M M':Nat->Nat->Rat},(∀ i < n,∀ j < n,M i j=M' i j)->det n M=det n M'
 | 0,_,_,_=>rfl
 | n + 1,M,M',h=>by
   unfold det
   refine au λi hi=>?_
   rw [h i hi 0 (by omega),aE (M:=minor M i) (M':=minor M' i) λr hr c hc=>h _ (my hr) _ (by omega)]
noncomputable def ar (M:Nat->Nat->Rat) (p:Nat) (v:Nat->Rat) (r c:Nat):Rat:=if r=p then v c else M r c
noncomputable def dJ (M:Nat->Nat->Rat) (q:Nat) (v:Nat->Rat) (r c:Nat):Rat:=if c=q then v r else M r c
noncomputable def un (i p:Nat):Nat:=if p < i then p else p - 1
theorem gM (M:Nat->Nat->Rat) (p:Nat) (v:Nat->Rat):minor (ar M p v) p=minor M p:=by
 funext r c
 unfold minor ar
 rw [if_neg (Ah p r)]
theorem fH (M:Nat->Nat->Rat) {i p:Nat} (h:i ≠ p) (v:Nat->Rat):minor (ar M p v) i=ar (minor M i) (un i p) λc=>v (c + 1):=by
 funext r c
 unfold minor ar
 have:skp i r=p ↔ r=un i p:=by unfold skp un; split <;> split <;> omega
 by_cases q:skp i r=p
 · rw [if_pos q,if_pos (this.mp q)]
 · rw [if_neg q,if_neg λz=>q (this.mpr z)]
theorem mv:∀ {n:Nat} (M:Nat->Nat->Rat) {p:Nat},p < n->∀ (a b:Rat) (x y:Nat->Rat),det n (ar M p λc=>a * x c + b * y c)=a * det n (ar M p x) + b * det n (ar M p y)
 | 0,_,_,h,_,_,_,_=>absurd h (Nat.not_lt_zero _)
 | n + 1,M,p,hp,a,b,x,y=>by
   unfold det
   rw [bf,bf,<- fS]
   refine au λi hi=>?_
   by_cases h:i=p
   · subst h
     rw [gM,gM,gM]
     simp only [ar,if_pos rfl]
     grind
   · rw [fH M h,fH M h,fH M h,mv (minor M i) (show un i p < n by unfold un; split <;> omega) a b]
     simp only [ar,if_neg h]
     grind
theorem uv {f:Nat->Rat} {p:Nat} (h0:∀ i,i ≠ p->i ≠ p + 1->f i=0) (h:f p + f (p + 1)=0):∀ n,p + 1 < n->ay f n=0:=by
 have z:∀ n,n<=p->ay f n=0:=by
   intro n
   induction n with
   | zero=>intro _; rfl
   | succ n ih=>intro hn; rw [ay,ih (by omega),h0 n (by omega) (by omega),Rat.add_zero]
 intro n
 induction n with
 | zero=>intro hn; omega
 | succ n ih=>
   intro hn
   rw [ay]
   by_cases q:n=p + 1
   · subst q
     rw [ay,z p (Nat.le_refl _),Rat.zero_add]
     exact h
   · rw [ih (by omega),h0 n (by omega) q,Rat.add_zero]
theorem ed {f:Nat->Rat} {n:Nat} (h:∀ i < n,f i=0):ay f n=0:=by
 rw [au h]; exact gm n
theorem jE:∀ {n:Nat} {M:Nat->Nat->Rat} {p:Nat},p + 1 < n->(∀ c < n,M p c=M (p + 1) c)->det n M=0
 | 0,_,_,h,_=>absurd h (Nat.not_lt_zero _)
 | n + 1,M,p,hp,h=>by
   unfold det
   let f:Nat->Rat:=λi=>if i < n + 1 then sgn i * M i 0 * det n (minor M i) else 0
   have e:ay (λi=>sgn i * M i 0 * det n (minor M i)) (n + 1)=ay f (n + 1):=au λi hi=>by simp only [f]; rw [if_pos hi]
   rw [e]
   refine uv (p:=p) (λi h1 h2=>?_) ?_ _ hp
   · simp only [f]
     by_cases hi:i < n + 1
     · rw [if_pos hi]
       have:det n (minor M i)=0:=by
         by_cases q:i < p
         · refine jE (p:=p - 1) (by omega) λc hc=>?_
           unfold minor skp
           rw [if_neg (by omega),if_neg (by omega),show p - 1 + 1=p by omega]
           exact h (c + 1) (by omega)
         · refine jE (p:=p) (by omega) λc hc=>?_
           unfold minor skp
           rw [if_pos (by omega),if_pos (by omega)]
           exact h (c + 1) (by omega)
       rw [this,Rat.mul_zero]
     · rw [if_neg hi]
   · simp only [f]
     rw [if_pos (by omega),if_pos hp,fW,<- h 0 (by omega)]
     have:det n (minor M p)=det n (minor M (p + 1)):=aE λr hr c hc=>by
       unfold minor skp
       by_cases q:r < p
       · rw [if_pos q,if_pos (by omega)]
       · rw [if_neg q]
         by_cases q2:r=p
         · subst q2
           rw [if_pos (by omega)]
           exact (h (c + 1) (by omega)).symm
         · rw [if_neg (by omega)]
     rw [this]
     grind
structure ML (n:Nat) (f:(Nat->Nat->Rat)->Rat):Prop where
 cong:∀ {M M':Nat->Nat->Rat},(∀ i < n,∀ j < n,M i j=M' i j)->f M=f M'
 lin:∀ (M:Nat->Nat->Rat) {p:Nat},p < n->∀ (a b:Rat) (x y:Nat->Rat),f (ar M p λc=>a * x c + b * y c)=a * f (ar M p x) + b * f (ar M p y)
 alt:∀ {M:Nat->Nat->Rat} {p:Nat},p + 1 < n->(∀ c < n,M p c=M (p + 1) c)->f M=0
theorem i6 (n:Nat):ML n (det n):=⟨aE,mv,jE⟩
section
variable {n:Nat} {f:(Nat->Nat->Rat)->Rat}
theorem bM (M:Nat->Nat->Rat) (p:Nat):ar M p (M p)=M:=by
 funext r c
 unfold ar
 split
 · rename_i h; rw [h]
 · rfl
theorem b5 {M:Nat->Nat->Rat} {p:Nat} {v:Nat->Rat}:ar M p v p=v:=by funext c; unfold ar; rw [if_pos rfl]
theorem bZ {M:Nat->Nat->Rat} {p r:Nat} {v:Nat->Rat} (h:r ≠ p):ar M p v r=M r:=by funext c; unfold ar; rw [if_neg h]
theorem bt {M:Nat->Nat->Rat} {p q:Nat} {v u:Nat->Rat} (h:p ≠ q):ar (ar M p v) q u=ar (ar M q u) p v:=by
 funext r c
 unfold ar
 by_cases h1:r=q
 · rw [if_pos h1,if_neg λz=>h (z.symm.trans h1),if_pos h1]
 · rw [if_neg h1,if_neg h1]
theorem ML.add (h:ML n f) (M:Nat->Nat->Rat) {p:Nat} (hp:p < n) (x y:Nat->Rat):f (ar M p λc=>x c + y c)=f (ar M p x) + f (ar M p y):=by
 have:=h.lin M hp 1 1 x y
 simp only [Rat.one_mul] at this
 exact this
theorem ML.nb (h:ML n f) (M:Nat->Nat->Rat) {p:Nat} (hp:p + 1 < n) (x y:Nat->Rat):f (ar (ar M p x) (p + 1) y)=-f (ar (ar M p y) (p + 1) x):=by
 have z:∀ u:Nat->Rat,f (ar (ar M p u) (p + 1) u)=0:=λu=>h.alt hp λc _=>by rw [b5,bZ (by omega),b5]
 have e:=z λc=>x c + y c
 rw [h.add _ hp] at e
 rw [bt (by omega),h.add _ (show p < n by omega),bt (M:=M) (p:=p) (q:=p + 1) (v:=λc=>x c + y c) (u:=y) (by omega),h.add _ (show p < n by omega)] at e
 rw [bt (M:=M) (p:=p + 1) (q:=p) (v:=x) (u:=x) (by omega),z x,bt (M:=M) (p:=p + 1) (q:=p) (v:=y) (u:=y) (by omega),z y,bt (M:=M) (p:=p + 1) (q:=p) (v:=x) (u:=y) (by omega),bt (M:=M) (p:=p + 1) (q:=p) (v:=y) (u:=x) (by omega)] at e
 grind
theorem ML.two (h:ML n f):∀ (d:Nat) (M:Nat->Nat->Rat) (p:Nat),p + 1 + d < n->M p=M (p + 1 + d)->f M=0
 | 0,M,p,hp,e=>h.alt hp λc _=>by rw [e]
 | d + 1,M,p,hp,e=>by
   have s:=h.nb M (p:=p + 1 + d) (by omega) (M (p + 1 + d)) (M (p + 1 + d + 1))
   rw [bM,bM] at s
   rw [s,ML.two h d _ p (by omega) (by rw [bZ (by omega),bZ (by omega),bZ (by omega),b5]; exact e)]
   rfl
theorem ML.same (h:ML n f) {M:Nat->Nat->Rat} {p q:Nat} (hp:p < n) (hq:q < n) (hpq:p ≠ q) (e:M p=M q):f M=0:=by
 rcases Nat.lt_or_lt_of_ne hpq with z | z
 · exact h.two (q - p - 1) M p (by omega) (by rw [show p + 1 + (q - p - 1)=q by omega]; exact e)
 · exact h.two (p - q - 1) M q (by omega) (by rw [show q + 1 + (p - q - 1)=p by omega]; exact e.symm)
theorem ML.swap (h:ML n f) {M:Nat->Nat->Rat} {p q:Nat} (hp:p < n) (hq:q < n) (hpq:p ≠ q) (x y:Nat->Rat):f (ar (ar M p x) q y)=-f (ar (ar M p y) q x):=by
 have z:∀ u:Nat->Rat,f (ar (ar M p u) q u)=0:=λu=>h.same hp hq hpq (by rw [b5,bZ hpq,b5])
 have e:=z λc=>x c + y c
 have c1:∀ u v:Nat->Rat,ar (ar M q u) p v=ar (ar M p v) q u:=λu v=>bt λz=>hpq z.symm
 rw [h.add _ hq,bt hpq,h.add _ hp,bt (M:=M) (p:=p) (q:=q) (v:=λc=>x c + y c) (u:=y) hpq,h.add _ hp,c1,c1,c1,c1,z x,z y] at e
 grind
theorem ML.CL (h:ML n f) (M:Nat->Nat->Rat) {p:Nat} (hp:p < n):f (ar M p λ_=>0)=0:=by
 have:=h.lin M hp 0 0 (λ_=>0) (λ_=>0)
 simp only [Rat.zero_mul,Rat.add_zero] at this
 exact this
theorem ML.sum (h:ML n f) (M:Nat->Nat->Rat) {p:Nat} (hp:p < n) (v:Nat->Rat) (e:Nat->Nat->Rat):∀ m,f (ar M p λj=>ay (λc=>v c * e c j) m)=ay (λc=>v c * f (ar M p (e c))) m
 | 0=>h.CL M hp
 | m + 1=>by
   have:=h.lin M hp 1 (v m) (λj=>ay (λc=>v c * e c j) m) (e m)
   simp only [Rat.one_mul] at this
   rw [ay,<- ML.sum h M hp v e m]
   exact this
theorem ML.comb (h:ML n f) (M:Nat->Nat->Rat) {p k:Nat} (hp:p < n) (hk:k<=p) (d:Rat) (β:Nat->Rat):f (ar M p λj=>d * M p j + ay (λi=>β i * M i j) k)=d * f M:=by
 have e:=h.lin M hp d 1 (M p) (λj=>ay (λi=>β i * M i j) k)
 simp only [Rat.one_mul] at e
 rw [e,bM,h.sum M hp β M k,ed,Rat.add_zero]
 intro i hi
 rw [h.same (p:=i) (q:=p) (by omega) hp (by omega) (by rw [bZ (by omega),b5]),Rat.mul_zero]
end
noncomputable def idQ (i j:Nat):Rat:=if i=j then 1 else 0
noncomputable def un1 (σ:Nat->Nat) (i j:Nat):Rat:=if σ i=j then 1 else 0
theorem uI:∀ (m:Nat) (σ:Nat->Nat),(∀ i < m + 1,σ i < m)->∃ i j,i < j/\j < m + 1/\σ i=σ j
 | 0,σ,h=>absurd (h 0 (by decide)) (Nat.not_lt_zero _)
 | m + 1,σ,h=>by
   by_cases q:∃ i,i < m + 1/\σ i=σ (m + 1)
   · obtain ⟨i,hi,e⟩:=q
     exact ⟨i,m + 1,hi,by omega,e⟩
   · have q':∀ i < m + 1,σ i ≠ σ (m + 1):=λi hi z=>q ⟨i,hi,z⟩
     obtain ⟨i,j,h1,h2,e⟩:=uI m (λi=>if σ (m + 1) < σ i then σ i - 1 else σ i) λi hi=>by
       have a:=h i (by omega)
       have b:=h (m + 1) (by omega)
       have c:=q' i hi
       split <;> omega
     refine ⟨i,j,h1,by omega,?_⟩
     have a:=q' i (by omega)
     have b:=q' j h2
     split at e <;> split at e <;> omega
theorem xy {n k:Nat} {σ:Nat->Nat} (h:∀ i < n,σ i < n) (hk:k < n) (hn:∀ i < n,σ i ≠ k):∃ i j,i < j/\j < n/\σ i=σ j:=by
 obtain ⟨m,rfl⟩:∃ m,n=m + 1:=⟨n - 1,by omega⟩
 obtain ⟨i,j,h1,h2,e⟩:=uI m (λi=>if k < σ i then σ i - 1 else σ i) λi hi=>by
   have a:=h i hi
   have b:=hn i hi
   split <;> omega
 refine ⟨i,j,h1,h2,?_⟩
 have a:=hn i (by omega)
 have b:=hn j h2
 split at e <;> split at e <;> omega
section
variable {n:Nat} {h:(Nat->Nat->Rat)->Rat}
theorem ML.we (H:ML n h) (h0:h idQ=0):∀ (d k:Nat),k + d=n->∀ σ:Nat->Nat,(∀ i < n,σ i < n)->(∀ i < k,σ i=i)->h (un1 σ)=0
 | 0,k,hk,σ,_,hf=>by
   rw [<- h0]
   exact H.cong λi hi j _=>by unfold un1 idQ; rw [hf i (by omega)]
 | d + 1,k,hk,σ,hs,hf=>by
   by_cases q:∃ j,k<=j/\j < n/\σ j=k
   · obtain ⟨j,h1,h2,h3⟩:=q
     by_cases z:j=k
     · subst z
       exact ML.we H h0 d (j + 1) (by omega) σ hs λi hi=>by
         by_cases y:i=j
         · rw [y]; exact h3
         · exact hf i (by omega)
     · have e:un1 σ=ar (ar (un1 σ) k (un1 σ k)) j (un1 σ j):=by rw [bM,bM]
       have e2:ar (ar (un1 σ) k (un1 σ j)) j (un1 σ k)=un1 λi=>if i=j then σ k else if i=k then σ j else σ i:=by
         funext r c
         have zk:¬ k=j:=λy=>z y.symm
         by_cases y1:r=j <;> by_cases y2:r=k <;> simp [ar,un1,y1,y2,zk]
       rw [e,H.swap (by omega) h2 (λy=>z y.symm),e2,ML.we H h0 d (k + 1) (by omega) _ (λi hi=>?_) (λi hi=>?_)]
       · rfl
       · split
         · exact hs k (by omega)
         · split
           · exact hs j h2
           · exact hs i hi
       · rw [if_neg (by omega)]
         by_cases y:i=k
         · rw [if_pos y,h3,y]
         · rw [if_neg y]
           exact hf i (by omega)
   · obtain ⟨i,j,h1,h2,e⟩:=xy hs (show k < n by omega) λi hi z=>by
       by_cases y:i < k
       · have:=hf i y
         omega
       · exact q ⟨i,by omega,hi,z⟩
     exact H.same (p:=i) (q:=j) (by omega) h2 (by omega) (by funext c; unfold un1; rw [e])
noncomputable def nq (k:Nat) (M:Nat->Nat->Rat) (σ:Nat->Nat) (i j:Nat):Rat:=if i < k then M i j else un1 σ i j
theorem ML.Bc (H:ML n h) (h0:h idQ=0) (M:Nat->Nat->Rat):∀ (k:Nat),k<=n->∀ σ:Nat->Nat,(∀ i < n,σ i < n)->h (nq k M σ)=0
 | 0,_,σ,hs=>by
   rw [<- ML.we H h0 n 0 (by omega) σ hs λi hi=>absurd hi (Nat.not_lt_zero _)]
   exact H.cong λi _ j _=>by unfold nq; rw [if_neg (Nat.not_lt_zero _)]
 | k + 1,hk,σ,hs=>by
   have e:h (nq (k + 1) M σ)=h (ar (nq k M σ) k λj=>ay (λc=>M k c * idQ c j) n):=H.cong λi hi j hj=>by
     unfold ar nq
     by_cases y:i=k
     · subst y
       rw [if_pos (by omega),if_pos rfl]
       exact (cW (M i) j n hj).symm
     · rw [if_neg y]
       by_cases z:i < k
       · rw [if_pos (by omega),if_pos z]
       · rw [if_neg (by omega),if_neg z]
   rw [e,H.sum _ (by omega),ed]
   intro c hc
   have e2:ar (nq k M σ) k (idQ c)=nq k M λi=>if i=k then c else σ i:=by
     funext r j
     by_cases y:r=k <;> simp [ar,nq,un1,idQ,y]
   rw [e2,ML.Bc H h0 M k (by omega) _ (λi hi=>?_),Rat.mul_zero]
   split
   · exact hc
   · exact hs i hi
theorem ML.zero (H:ML n h) (h0:h idQ=0) (M:Nat->Nat->Rat):h M=0:=by
 rw [<- ML.Bc H h0 M n (Nat.le_refl _) (λi=>i) λi hi=>hi]
 exact H.cong λi hi j _=>by unfold nq; rw [if_pos hi]
end
theorem u9:minor idQ 0=idQ:=by
 funext r c
 unfold minor idQ skp
 rw [if_neg (Nat.not_lt_zero _)]
 by_cases h:r=c
 · rw [if_pos (by omega),if_pos h]
 · rw [if_neg (by omega),if_neg h]
theorem qA:∀ n,det n idQ=1
 | 0=>rfl
 | n + 1=>by
   unfold det
   rw [au (g:=λi=>det n (minor idQ i) * idQ i 0) λi hi=>?_]
   · have:=cW (λi=>det n (minor idQ i)) 0 (n + 1) (by omega)
     have e:(λi=>det n (minor idQ i) * idQ i 0)=λk=>(λi=>det n (minor idQ i)) k * dq k 0:=rfl
     rw [e,this,u9,qA n]
   · by_cases z:i=0
     · subst z
       show 1 * 1 * _=_ * 1
       grind
     · unfold idQ
       rw [if_neg z]
       grind
theorem ML.uniq {n:Nat} {f:(Nat->Nat->Rat)->Rat} (F:ML n f) (M:Nat->Nat->Rat):f M=det n M * f idQ:=by
 have D:=i6 n
 have H:ML n λM=>f M - det n M * f idQ:=by
   refine ⟨λ{M M'} e=>?_,λM p hp a b x y=>?_,λ{M p} hp e=>?_⟩
   · rw [F.cong e,D.cong e]
   · rw [F.lin M hp,D.lin M hp]
     grind
   · rw [F.alt hp e,D.alt hp e]
     grind
 have:=H.zero (by rw [qA]; grind) M
 grind
theorem og:∀ {n:Nat} (M:Nat->Nat->Rat) {q:Nat},q < n->∀ (a b:Rat) (x y:Nat->Rat),det n (dJ M q λc=>a * x c + b * y c)=a * det n (dJ M q x) + b * det n (dJ M q y)
 | 0,_,_,h,_,_,_,_=>absurd h (Nat.not_lt_zero _)
 | n + 1,M,q,hq,a,b,x,y=>by
   unfold det
   rw [bf,bf,<- fS]
   refine au λi hi=>?_
   cases q with
   | zero=>
     have e:∀ v,minor (dJ M 0 v) i=minor M i:=λv=>by
       funext r c
       unfold minor dJ
       rw [if_neg (by omega)]
     rw [e,e,e]
     simp only [dJ,if_true]
     grind
   | succ q=>
     have e:∀ v,minor (dJ M (q + 1) v) i=dJ (minor M i) q λr=>v (skp i r):=λv=>by
       funext r c
       unfold minor dJ
       by_cases z:c=q
       · rw [if_pos (by omega),if_pos z]
       · rw [if_neg (by omega),if_neg z]
     rw [e,e,e,og (minor M i) (show q < n by omega) a b]
     have z:¬ (0=q + 1):=by omega
     simp only [dJ,if_neg z]
     grind
theorem lF (g:Nat->Rat) (i:Nat):∀ n,i<=n->ay (λj=>g (skp i j)) n=ay g (n + 1) - g i
 | 0,h=>by
   have:i=0:=by omega
   subst this
   show (0:Rat)=0 + g 0 - g 0
   grind
 | n + 1,h=>by
   by_cases q:i=n + 1
   · subst q
     have e:ay (λj=>g (skp (n + 1) j)) (n + 1)=ay g (n + 1):=au λk hk=>by unfold skp; rw [if_pos hk]
     rw [e,ay.eq_2 g (n + 1)]
     grind
   · rw [ay,lF g i n (by omega),ay.eq_2 g (n + 1)]
     have:skp i n=n + 1:=by unfold skp; rw [if_neg (by omega)]
     rw [this]
     grind
theorem sI {n:Nat} {G:Nat->Nat->Rat} (h:∀ i < n,∀ j < n,G i j=-G j i):ay (λi=>ay (λj=>G i j) n) n=0:=by
 have e:ay (λi=>ay (λj=>G i j) n) n=-1 * ay (λi=>ay (λj=>G i j) n) n:=by
   conv=>lhs; rw [gp]
   rw [bf]
   refine au λi hi=>?_
   rw [bf]
   refine au λj hj=>?_
   rw [h j hj i hi]
   grind
 grind
theorem xN {i j r:Nat} (h:i < j):skp i (skp (j - 1) r)=skp j (skp i r):=by
 unfold skp
 split <;> split <;> (try split) <;> (try split) <;> omega
theorem n9:∀ {n:Nat} {M:Nat->Nat->Rat} {q:Nat},q + 1 < n->(∀ r < n,M r q=M r (q + 1))->det n M=0
 | 0,_,_,h,_=>absurd h (Nat.not_lt_zero _)
 | 1,_,_,h,_=>by omega
 | n + 2,M,q + 1,hq,h=>by
   rw [det]
   refine ed λi hi=>?_
   rw [n9 (M:=minor M i) (q:=q) (by omega) λr hr=>h _ (my hr),Rat.mul_zero]
 | n + 2,M,0,hq,h=>by
   let D:Nat->Nat->Rat:=λi j=>det n λr c=>M (skp i (skp j r)) (c + 2)
   let G:Nat->Nat->Rat:=λi j=>if i < j then -(sgn i * sgn j * M i 0 * M j 0 * D i (j - 1)) else if j < i then sgn i * sgn j * M i 0 * M j 0 * D i j else 0
   have inner:∀ i < n + 2,sgn i * M i 0 * det (n + 1) (minor M i)=ay (λj=>G i j) (n + 2):=λi hi=>by
     have e:ay (λj=>G i j) (n + 2)=ay (λj=>G i (skp i j)) (n + 1):=by
       have g0:G i i=0:=by simp only [G]; rw [if_neg (Nat.lt_irrefl i),if_neg (Nat.lt_irrefl i)]
       rw [lF (λj=>G i j) i (n + 1) (by omega),g0]
       grind
     rw [e,det,bf]
     refine au λj hj=>?_
     have m0:minor M i j 0=M (skp i j) 0:=(h _ (my hj)).symm
     have mm:det n (minor (minor M i) j)=D i j:=rfl
     rw [m0,mm]
     simp only [G]
     by_cases z:j < i
     · have s:skp i j=j:=by unfold skp; rw [if_pos z]
       rw [s,if_neg (by omega),if_pos z]
       grind
     · have s:skp i j=j + 1:=by unfold skp; rw [if_neg z]
       rw [s,if_pos (by omega),fW,show j + 1 - 1=j by omega]
       grind
   rw [det,au inner]
   refine sI λi hi j hj=>?_
   have sy:∀ {i j:Nat},i < j->D i (j - 1)=D j i:=λ{i j} z=>by
     simp only [D]
     congr 1
     funext r c
     rw [xN z]
   simp only [G]
   rcases Nat.lt_trichotomy i j with z | z | z
   · rw [if_pos z,if_neg (by omega),if_pos z,sy z]
     grind
   · subst z
     rw [if_neg (Nat.lt_irrefl _),if_neg (Nat.lt_irrefl _)]
     rfl
   · rw [if_neg (by omega),if_pos z,if_pos z,sy z]
     grind
theorem kC (n:Nat) (M:Nat->Nat->Rat):det n (λi j=>M j i)=det n M:=by
 have H:ML n λM=>det n λi j=>M j i:=by
   refine ⟨λ{M M'} e=>aE λi hi j hj=>e j hj i hi,λM p hp a b x y=>?_,λ{M p} hp e=>n9 hp λr hr=>e r hr⟩
   exact og (λi j=>M j i) hp a b x y
 have u:=H.uniq M
 have i1:(det n λi j=>idQ j i)=1:=by
   rw [<- qA n]
   congr 1
   funext i j
   unfold idQ
   by_cases z:i=j
   · rw [if_pos z,if_pos z.symm]
   · rw [if_neg z,if_neg λy=>z y.symm]
 simp only [i1,Rat.mul_one] at u
 exact u
noncomputable def mulQ (n:Nat) (F H:Nat->Nat->Rat) (i j:Nat):Rat:=ay (λk=>F i k * H k j) n
theorem q9 (n:Nat) (A B:Nat->Nat->Rat):det n (mulQ n A B)=det n A * det n B:=by
 have H:ML n λA=>det n (mulQ n A B):=by
   refine ⟨λ{M M'} e=>aE λi hi j hj=>au λk hk=>by rw [e i hi k hk],λM p hp a b x y=>?_,λ{M p} hp e=>jE hp λc hc=>au λk hk=>by rw [e k hk]⟩
   have e:∀ v,mulQ n (ar M p v) B=ar (mulQ n M B) p λj=>ay (λk=>v k * B k j) n:=λv=>by
     funext r c
     unfold mulQ ar
     split <;> rfl
   rw [e,e,e,<- mv _ hp]
   congr 2
   funext j
   rw [bf,bf,<- fS]
   exact au λk hk=>by grind
 have u:=H.uniq A
 have i1:det n (mulQ n idQ B)=det n B:=aE λi hi j hj=>qD (λk=>B k j) i n hi
 simp only [i1] at u
 exact u
theorem cV (m:Nat):∀ (k:Nat) (M:Nat->Nat->Rat),(∀ i,k<=i->i < k + m->∀ j < k,M i j=0)->det (k + m) M=det k M * det m λi j=>M (k + i) (k + j)
 | 0,M,_=>by
   rw [Nat.zero_add]
   show det m M=1 * _
   rw [Rat.one_mul]
   congr 1
   funext i j
   rw [Nat.zero_add,Nat.zero_add]
 | k + 1,M,h=>by
   have a:k + 1 + m=(k + m) + 1:=by omega
   rw [a,det,det,ie]
   have tail:∀ t,ay (λi=>sgn i * M i 0 * det (k + m) (minor M i)) (k + 1 + t)=ay (λi=>sgn i * M i 0 * det (k + m) (minor M i)) (k + 1)\/¬ t<=m:=by
     intro t
     induction t with
     | zero=>exact .inl rfl
     | succ t ih=>
       by_cases q:t + 1<=m
       · rcases ih with ih | ih
         · refine .inl ?_
           rw [show k + 1 + (t + 1)=(k + 1 + t) + 1 by omega,ay,ih,h (k + 1 + t) (by omega) (by omega) 0 (by omega)]
           grind
         · omega
       · exact .inr q
   rcases tail m with e | e
   · rw [show k + m + 1=k + 1 + m by omega,e]
     refine au λi hi=>?_
     rw [cV m k (minor M i) λr h1 h2 c hc=>?_]
     · have:(λr c=>minor M i (k + r) (k + c))=λr c=>M (k + 1 + r) (k + 1 + c):=by
         funext r c
         unfold minor skp
         rw [if_neg (by omega),show k + r + 1=k + 1 + r by omega,show k + c + 1=k + 1 + c by omega]
       rw [this]
       grind
     · unfold minor skp
       rw [if_neg (by omega)]
       exact h _ (by omega) (by omega) _ (by omega)
   · exact absurd (Nat.le_refl m) e
theorem kB {n k:Nat} (d:Rat) (β:Nat->Nat->Rat) (M:Nat->Nat->Rat):∀ t,k + t<=n->det n (λi j=>if k<=i/\i < k + t then d * M i j + ay (λa=>β i a * M a j) k else M i j)=d ^ t * det n M
 | 0,_=>by
   rw [Rat.pow_zero,Rat.one_mul]
   congr 1
   funext i j
   have n0:¬ (k<=i/\i < k + 0):=by omega
   rw [if_neg n0]
 | t + 1,h=>by
   have ih:=kB (n:=n) (k:=k) d β M t (by omega)
   have c:=(i6 n).comb (λi j=>if k<=i/\i < k + t then d * M i j + ay (λa=>β i a * M a j) k else M i j) (p:=k + t) (k:=k) (by omega) (by omega) d (β (k + t))
   rw [ih] at c
   rw [Rat.pow_succ,Rat.mul_comm (d ^ t) d,Rat.mul_assoc,<- c]
   congr 1
   funext i j
   unfold ar
   by_cases q:i=k + t
   · subst q
     have n1:¬ (k<=k + t/\k + t < k + t):=by omega
     have p1:k<=k + t/\k + t < k + (t + 1):=by omega
     rw [if_pos p1,if_pos rfl]
     dsimp only
     rw [if_neg n1]
     congr 1
     exact au λa ha=>by
       have na:¬ (k<=a/\a < k + t):=by omega
       rw [if_neg na]
   · rw [if_neg q]
     dsimp only
     by_cases z:k<=i/\i < k + t
     · rw [if_pos (by omega),if_pos z]
     · rw [if_neg (by omega),if_neg z]
theorem vk {d:Rat} (h:d ≠ 0):∀ t:Nat,d ^ t ≠ 0
 | 0=>by rw [Rat.pow_zero]; exact λz=>by cases z
 | t + 1=>by
   rw [Rat.pow_succ]
   intro z
   rcases Rat.mul_eq_zero.mp z with y | y
   · exact vk h t y
   · exact h y
noncomputable def bm (Y:Nat->Nat->Rat) (k p q:Nat):Rat:=det (k + 1) λr c=>Y (if r < k then r else p) (if c < k then c else q)
noncomputable def bc (Y:Nat->Nat->Rat) (k p i:Nat):Rat:=det (k + 1) (ar (λr c=>Y (if c < k then c else p) r) k (idQ i))
theorem gx (M:Nat->Nat->Rat):det 1 M=M 0 0:=by
 show 0 + 1 * M 0 0 * 1=M 0 0
 grind
theorem wH (M:Nat->Nat->Rat):det 2 M=M 0 0 * M 1 1 - M 0 1 * M 1 0:=by
 show 0 + 1 * M 0 0 * det 1 (minor M 0) + -1 * M 1 0 * det 1 (minor M 1)=_
 rw [gx,gx]
 show 0 + 1 * M 0 0 * M 1 1 + -1 * M 1 0 * M 0 1=_
 grind
section
variable {Y:Nat->Nat->Rat} {k p q:Nat}
theorem um:bm Y k p q=det k Y * Y p q + ay (λi=>bc Y k p i * Y i q) k:=by
 have e:bm Y k p q=det (k + 1) (ar (λr c=>Y (if c < k then c else p) r) k λr=>ay (λc=>Y (if c < k then c else p) q * idQ c r) (k + 1)):=by
   unfold bm
   rw [<- kC]
   refine aE λi hi j hj=>?_
   unfold ar
   by_cases z:i=k
   · subst z
     rw [if_pos rfl,if_neg (Nat.lt_irrefl _)]
     exact (cW (λc=>Y (if c < i then c else p) q) j (i + 1) hj).symm
   · rw [if_neg z,if_pos (show i < k by omega)]
 have last:det (k + 1) (ar (λr c=>Y (if c < k then c else p) r) k (idQ k))=det k Y:=by
   rw [cV 1 k _ λi h1 h2 j hj=>?_,gx]
   · have e1:ar (λr c=>Y (if c < k then c else p) r) k (idQ k) (k + 0) (k + 0)=1:=by
       unfold ar idQ
       rw [if_pos (Nat.add_zero k),if_pos (Nat.add_zero k).symm]
     rw [e1,Rat.mul_one,<- kC]
     refine aE λi hi j hj=>?_
     unfold ar
     rw [if_neg (by omega)]
     dsimp only
     rw [if_pos hi]
   · have:i=k:=by omega
     subst this
     unfold ar idQ
     rw [if_pos rfl,if_neg (by omega)]
 rw [e,(i6 (k + 1)).sum _ (Nat.lt_succ_self k),ay,last,if_neg (Nat.lt_irrefl _),Rat.add_comm,Rat.mul_comm (Y p q)]
 congr 1
 exact au λi hi=>by rw [if_pos hi,Rat.mul_comm]; rfl
theorem qO (h:q < k):bm Y k p q=0:=by
 unfold bm
 rw [<- kC]
 refine (i6 (k + 1)).same (p:=q) (q:=k) (by omega) (by omega) (by omega) ?_
 funext r
 rw [if_pos h,if_neg (Nat.lt_irrefl _)]
theorem yc:bm Y k k k=det (k + 1) Y:=by
 refine aE λi hi j hj=>?_
 have:∀ r,r < k + 1->(if r < k then r else k)=r:=λr hr=>by split <;> omega
 rw [this i hi,this j hj]
theorem xJ {i j:Nat} (h0:det k Y ≠ 0):det k Y * bm Y (k + 1) i j=bm Y k k k * bm Y k i j - bm Y k k j * bm Y k i k:=by
 let W:Nat->Nat->Rat:=λr c=>Y (if r < k + 1 then r else i) (if c < k + 1 then c else j)
 have e:=kB (n:=k + 2) (k:=k) (det k Y) (λr a=>bc Y k (if r < k + 1 then r else i) a) W 2 (Nat.le_refl _)
 have ent:∀ r c,(if k<=r/\r < k + 2 then det k Y * W r c + ay (λa=>bc Y k (if r < k + 1 then r else i) a * W a c) k else W r c)=if k<=r/\r < k + 2 then bm Y k (if r < k + 1 then r else i) (if c < k + 1 then c else j) else W r c:=λr c=>by
   by_cases z:k<=r/\r < k + 2
   · rw [if_pos z,if_pos z,um]
     congr 1
     exact au λa ha=>by simp only [W]; rw [if_pos (show a < k + 1 by omega)]
   · rw [if_neg z,if_neg z]
 simp only [ent] at e
 rw [cV 2 k _ λr h1 h2 c hc=>?_,wH] at e
 · have a0:k<=k + 0/\k + 0 < k + 2:=by omega
   have a1:k<=k + 1/\k + 1 < k + 2:=by omega
   have b0:k + 0 < k + 1:=by omega
   have b1:¬ k + 1 < k + 1:=by omega
   rw [if_pos a0,if_pos a1,if_pos a0,if_pos a1,if_pos b0,if_neg b1,if_pos b0,if_neg b1,Nat.add_zero] at e
   have dk:(det k λr c=>if k<=r/\r < k + 2 then bm Y k (if r < k + 1 then r else i) (if c < k + 1 then c else j) else W r c)=det k Y:=aE λr hr c hc=>by
     rw [if_neg (by omega)]
     simp only [W]
     rw [if_pos (by omega),if_pos (by omega)]
   rw [dk] at e
   have dw:det (k + 2) W=bm Y (k + 1) i j:=rfl
   rw [dw] at e
   have c:=Rat.inv_mul_cancel (det k Y) h0
   have p2:det k Y ^ 2=det k Y * det k Y:=by rw [Rat.pow_succ,Rat.pow_succ,Rat.pow_zero,Rat.one_mul]
   rw [p2] at e
   have e2:(det k Y)⁻¹ * (det k Y * det k Y * bm Y (k + 1) i j)=(det k Y)⁻¹ * (det k Y * (bm Y k k k * bm Y k i j - bm Y k k j * bm Y k i k)):=congrArg _ e.symm
   rw [Rat.mul_assoc,<- Rat.mul_assoc,c,Rat.one_mul,<- Rat.mul_assoc,c,Rat.one_mul] at e2
   exact e2
 · rw [if_pos ⟨h1,h2⟩,if_pos (show c < k + 1 by omega)]
   exact qO hc
theorem xt {n:Nat} (h0:det k Y ≠ 0) (hk:k < n) (h:∀ p,k<=p->p < n->bm Y k p k=0):det n Y=0:=by
 have e:=kB (n:=n) (k:=k) (det k Y) (λr a=>bc Y k r a) Y (n - k) (by omega)
 have ent:∀ r c,(if k<=r/\r < k + (n - k) then det k Y * Y r c + ay (λa=>bc Y k r a * Y a c) k else Y r c)=if k<=r/\r < k + (n - k) then bm Y k r c else Y r c:=λr c=>by
   by_cases z:k<=r/\r < k + (n - k)
   · rw [if_pos z,if_pos z,um]
   · rw [if_neg z,if_neg z]
 simp only [ent] at e
 have z:(det n λr c=>if k<=r/\r < k + (n - k) then bm Y k r c else Y r c)=0:=by
   obtain ⟨m,hm⟩:∃ m,n=k + (m + 1):=⟨n - k - 1,by omega⟩
   subst hm
   rw [cV (m + 1) k _ λr h1 h2 c hc=>?_]
   · have:det (m + 1) (λi j=>if k<=k + i/\k + i < k + (k + (m + 1) - k) then bm Y k (k + i) (k + j) else Y (k + i) (k + j))=0:=by
       rw [det]
       refine ed λi hi=>?_
       rw [if_pos (by omega),Nat.add_zero,h (k + i) (by omega) (by omega)]
       grind
     rw [this,Rat.mul_zero]
   · rw [if_pos (by omega)]
     exact qO hc
 rw [z] at e
 rcases Rat.mul_eq_zero.mp e.symm with y | y
 · exact absurd y (vk h0 _)
 · exact y
noncomputable def rho (k m r:Nat):Nat:=if r < k then r else if r=k then k + m else if r<=k + m then r - 1 else r
theorem mE {n:Nat}:∀ (m:Nat) (Y:Nat->Nat->Rat),k + m < n->(det n λr=>Y (rho k m r))=sgn m * det n Y
 | 0,Y,_=>by
   have:(λr=>Y (rho k 0 r))=Y:=by
     funext r
     congr 1
     unfold rho
     split
     · rfl
     · split
       · omega
       · split <;> omega
   rw [this]
   show _=1 * _
   rw [Rat.one_mul]
 | m + 1,Y,h=>by
   have ih:=mE (n:=n) m (ar (ar Y (k + m) (Y (k + m + 1))) (k + m + 1) (Y (k + m))) (by omega)
   have s:=(i6 n).nb Y (p:=k + m) (by omega) (Y (k + m + 1)) (Y (k + m))
   rw [bM,bM] at s
   rw [s] at ih
   rw [fW]
   have e:(λr=>ar (ar Y (k + m) (Y (k + m + 1))) (k + m + 1) (Y (k + m)) (rho k m r))=λr=>Y (rho k (m + 1) r):=by
     funext r
     by_cases z:rho k m r=k + m + 1
     · rw [z,b5]
       congr 1
       unfold rho at z ⊢
       split at z
       · omega
       · split at z
         · omega
         · split at z
           · omega
           · rename_i a b c
             rw [if_neg a,if_neg b,if_pos (by omega)]
             omega
     · rw [bZ z]
       by_cases y:rho k m r=k + m
       · rw [y,b5]
         congr 1
         unfold rho at y z ⊢
         split at y
         · omega
         · split at y
           · rename_i a b
             rw [if_neg a,if_pos b]
             omega
           · split at y
             · omega
             · omega
       · rw [bZ y]
         congr 1
         unfold rho at y z ⊢
         split at y
         · rename_i a
           rw [if_pos a,if_pos a]
         · rename_i a
           rw [if_neg a] at z
           split at y
           · omega
           · rename_i b
             rw [if_neg b] at z
             rw [if_neg a,if_neg b,if_neg a,if_neg b]
             split at y
             · rename_i c
               rw [if_pos c,if_pos (by omega)]
             · rename_i c
               rw [if_neg c] at z
               rw [if_neg c,if_neg (by omega)]
   rw [e] at ih
   rw [ih]
   grind
theorem y7 {m:Nat}:bm (λr=>Y (rho k m r)) k p q=bm Y k (rho k m p) q:=by
 refine aE λr hr c hc=>?_
 dsimp only
 congr 1
 by_cases z:r < k
 · rw [if_pos z,if_pos z]
   unfold rho
   rw [if_pos z]
 · rw [if_neg z,if_neg z]
theorem lI {m:Nat}:(det k λr=>Y (rho k m r))=det k Y:=aE λr hr c hc=>by
 unfold rho
 rw [if_pos hr]
end
noncomputable def ZB (b:Nat) (x:Rat):Prop:=∃ z:Int,x=(z:Rat)/\z.natAbs<=2 ^ b
theorem ZB.mono {b c:Nat} {x:Rat} (h:ZB b x) (hc:b<=c):ZB c x:=by
 obtain ⟨z,e,l⟩:=h
 exact ⟨z,e,Nat.le_trans l (Nat.pow_le_pow_right (by decide) hc)⟩
theorem ZB.mul {b c:Nat} {x y:Rat} (h:ZB b x) (g:ZB c y):ZB (b + c) (x * y):=by
 obtain ⟨u,rfl,l⟩:=h
 obtain ⟨v,rfl,k⟩:=g
 exact ⟨u * v,(Rat.intCast_mul u v).symm,by rw [Int.natAbs_mul,Nat.pow_add]; exact Nat.mul_le_mul l k⟩
theorem ZB.sgn (i:Nat):ZB 0 (sgn i):=by
 show ZB 0 (if i % 2=0 then 1 else -1)
 split
 · exact ⟨1,rfl,by decide⟩
 · exact ⟨-1,rfl,by decide⟩
theorem ZB.sum {b:Nat} {f:Nat->Rat}:∀ {n:Nat},(∀ i < n,ZB b (f i))->∃ z:Int,ay f n=(z:Rat)/\z.natAbs<=n * 2 ^ b
 | 0,_=>⟨0,rfl,Nat.zero_le _⟩
 | n + 1,h=>by
   obtain ⟨u,e,l⟩:=ZB.sum λi hi=>h i (Nat.lt_succ_of_lt hi)
   obtain ⟨v,e',l'⟩:=h n (Nat.lt_succ_self n)
   refine ⟨u + v,by rw [ay,e,e',Rat.intCast_add],?_⟩
   rw [Nat.succ_mul]
   exact Nat.le_trans (Int.natAbs_add_le _ _) (Nat.add_le_add l l')
theorem tL {b:Nat}:∀ {n:Nat} {M:Nat->Nat->Rat},n<=8->(∀ i < n,∀ j < n,ZB b (M i j))->ZB (n * (b + 3)) (det n M)
 | 0,_,_,_=>⟨1,rfl,Nat.one_le_two_pow⟩
 | n + 1,M,hn,h=>by
   obtain ⟨z,e,l⟩:=ZB.sum (b:=b + n * (b + 3)) (f:=λi=>sgn i * M i 0 * det n (minor M i)) (n:=n + 1) λi hi=>by
     have:=((ZB.sgn i).mul (h i hi 0 (by omega))).mul (tL (n:=n) (M:=minor M i) (by omega) λr hr c hc=>h _ (my hr) _ (by omega))
     exact this.mono (by omega)
   refine ⟨z,e,Nat.le_trans l ?_⟩
   rw [show (n + 1) * (b + 3)=3 + (b + n * (b + 3)) by rw [Nat.succ_mul]; omega,Nat.pow_add 2 3]
   exact Nat.mul_le_mul_right _ (by omega)
noncomputable def dh (s:Nat->Rat):Nat->Rat
 | 0=>1
 | n + 1=>dh s n * s n
theorem iU {n:Nat} (s:Nat->Rat) (M:Nat->Nat->Rat):∀ t,t<=n->det n (λi j=>if i < t then s i * M i j else M i j)=dh s t * det n M
 | 0,_=>by
   rw [dh,Rat.one_mul]
   exact aE λi _ j _=>if_neg (Nat.not_lt_zero _)
 | t + 1,h=>by
   have ih:=iU (n:=n) s M t (by omega)
   have c:=(i6 n).comb (λi j=>if i < t then s i * M i j else M i j) (p:=t) (k:=0) (by omega) (Nat.zero_le _) (s t) (λ_=>0)
   rw [ih] at c
   rw [dh,Rat.mul_comm (dh s t),Rat.mul_assoc,<- c]
   refine aE λi _ j _=>?_
   unfold ar
   by_cases q:i=t
   · subst q
     rw [if_pos (Nat.lt_succ_self i),if_pos rfl]
     dsimp only
     rw [if_neg (Nat.lt_irrefl i)]
     show _=_ + 0
     rw [Rat.add_zero]
   · rw [if_neg q]
     dsimp only
     by_cases z:i < t
     · rw [if_pos (by omega),if_pos z]
     · rw [if_neg (by omega),if_neg z]
noncomputable def pA (k:Int) (j:Nat):Bool:=decide (Builtin.bitAnd (k / 2 ^ j) 1=1)
noncomputable def mV (k:Int) (j:Nat):Int:=Builtin.bitOr k (1 * 2 ^ j)
noncomputable def sgZ (b:Int):Int:=1 - 2 * b.fmod 2
noncomputable def kY (row:List Int) (k v:Int) (j:Nat) (s:Int × List (Int × Int)):Int × List (Int × Int):=
 if pA k j then (s.1 + 1,s.2) else (s.1,gA s.2 (mV k j) ((bQ s.2 (mV k j)).getD 0 + sgZ s.1 * row.getD j 0 * v))
noncomputable def cR (n:Nat) (row:List Int) (k v:Int) (kv:List (Int × Int)):Nat->Int × List (Int × Int)
 | 0=>(0,kv)
 | c + 1=>kY row k v (n - 1 - c) (cR n row k v kv c)
noncomputable def bG (n:Nat) (row:List Int) (kv:List (Int × Int)):Nat->List (Int × Int)
 | 0=>[]
 | t + 1=>(cR n row (kv.getD t (0,0)).1 ((bQ kv (kv.getD t (0,0)).1).getD 0) (bG n row kv t) n).2
noncomputable def b9 (Ms:List (List Int)):Nat->List (Int × Int)
 | 0=>[(0,1)]
 | i + 1=>bG Ms.length (Ms.getD i []) (b9 Ms i) (b9 Ms i).length
noncomputable def lim:Nat:=2 ^ 8900
noncomputable def okZ (Ms:List (List Int)):Prop:=Ms.length<=7/\(∀ r ∈ Ms,r.length=Ms.length/\∀ x ∈ r,x.natAbs < lim)/\∀ i,i < Ms.length->∀ p ∈ b9 Ms i,p.2.natAbs < lim
noncomputable def AD (Ms:List (List Int)):Option Int:=open Classical in if okZ Ms then bQ (b9 Ms Ms.length) (2 ^ Ms.length - 1) else none
theorem ku (m:Nat) (Y:Nat->Nat->Rat):det (m + 1) Y=ay (λc=>sgn (m + c) * Y m c * det m λr q=>Y r (skp c q)) (m + 1):=by
 have e1:=mE (k:=0) (n:=m + 1) m Y (by omega)
 have e2:=kC (m + 1) λr=>Y (rho 0 m r)
 rw [det] at e2
 have r0:rho 0 m 0=m:=by unfold rho; rw [if_neg (by omega),if_pos rfl]; omega
 have rs:∀ r,r < m->rho 0 m (r + 1)=r:=λr hr=>by
   unfold rho
   rw [if_neg (by omega),if_neg (by omega),if_pos (by omega)]
   omega
 have e3:ay (λc=>sgn c * Y m c * det m λr q=>Y r (skp c q)) (m + 1)=sgn m * det (m + 1) Y:=by
   rw [<- e1,<- e2]
   refine au λc _=>?_
   rw [r0,<- kC m]
   congr 1
   exact aE λr hr q hq=>by
     unfold minor
     dsimp only
     rw [rs q hq]
 have sm:∀ c,sgn (m + c)=sgn m * sgn c:=λc=>by
   induction c with
   | zero=>rw [Nat.add_zero,show sgn 0=1 from rfl,Rat.mul_one]
   | succ c ih=>rw [<- Nat.add_assoc,fW,ih,fW]; grind
 have:ay (λc=>sgn (m + c) * Y m c * det m λr q=>Y r (skp c q)) (m + 1)=sgn m * ay (λc=>sgn c * Y m c * det m λr q=>Y r (skp c q)) (m + 1):=by
   rw [bf]
   refine au λc _=>?_
   rw [sm]
   grind
 rw [this,e3,<- Rat.mul_assoc,zY,Rat.one_mul]
noncomputable def fB (M:Nat->Nat->Rat) (L:List Nat):Rat:=det L.length λr c=>M r (L.getD c 0)
theorem qy {M:Nat->Nat->Rat} {L:List Nat} {m:Nat} (h:L.length=m + 1):fB M L=ay (λc=>sgn (m - c) * M m (L.getD c 0) * fB M (L.eraseIdx c)) (m + 1):=by
 unfold fB
 rw [h,ku]
 refine au λc hc=>?_
 have e1:sgn (m + c)=sgn (m - c):=by
   unfold sgn
   by_cases z:(m + c) % 2=0
   · rw [if_pos z,if_pos (by omega)]
   · rw [if_neg z,if_neg (by omega)]
 have e2:(L.eraseIdx c).length=m:=by rw [List.length_eraseIdx_of_lt (by omega)]; omega
 rw [e1,e2]
 refine congrArg (λx=>sgn (m - c) * M m (L.getD c 0) * x) (aE λr _ q hq=>?_)
 rw [List.getD_eq_getElem?_getD,List.getD_eq_getElem?_getD,List.getElem?_eraseIdx]
 unfold skp
 split <;> rfl
noncomputable def cols (n S:Nat):List Nat:=(List.range n).filter λj=>S.testBit j
theorem jS {n S j:Nat}:j ∈ cols n S ↔ j < n/\S.testBit j=true:=by
 unfold cols
 rw [List.mem_filter,List.mem_range]
theorem xX {n S j:Nat} (hj:j < n) (h:S.testBit j=false):cols n (S ||| 2 ^ j)=(cols j S)++j :: ((List.range (n - (j + 1))).map (j + 1 + ·)).filter (λk=>S.testBit k):=by
 unfold cols
 obtain ⟨d,rfl⟩:=Nat.exists_eq_add_of_le (show j + 1<=n from hj)
 rw [List.range_add,List.range_succ,List.filter_append,List.filter_append,show j + 1 + d - (j + 1)=d by omega,List.append_assoc]
 have lo:(List.range j).filter (λk=>(S ||| 2 ^ j).testBit k)=(List.range j).filter λk=>S.testBit k:=List.filter_congr λk hk=>by
   have:=List.mem_range.mp hk
   rw [Nat.testBit_or,Nat.testBit_two_pow_of_ne (by omega),Bool.or_false]
 have hi:((List.range d).map (j + 1 + ·)).filter (λk=>(S ||| 2 ^ j).testBit k)=((List.range d).map (j + 1 + ·)).filter λk=>S.testBit k:=List.filter_congr λk hk=>by
   obtain ⟨q,_,rfl⟩:=List.mem_map.mp hk
   rw [Nat.testBit_or,Nat.testBit_two_pow_of_ne (by omega),Bool.or_false]
 rw [lo,hi,List.filter_cons_of_pos (by rw [Nat.testBit_or,Nat.testBit_two_pow_self,Bool.or_true]),List.filter_nil]
 rfl
noncomputable def above (n j S:Nat):List Nat:=((List.range (n - (j + 1))).map (j + 1 + ·)).filter λk=>S.testBit k
theorem pJ {n S j:Nat} (hj:j < n) (h:S.testBit j=false):cols n S=cols j S++above n j S:=by
 unfold cols above
 obtain ⟨d,rfl⟩:=Nat.exists_eq_add_of_le (show j + 1<=n from hj)
 rw [List.range_add,List.range_succ,List.filter_append,List.filter_append,show j + 1 + d - (j + 1)=d by omega,List.filter_cons_of_neg (by rw [h]; decide),List.filter_nil,List.append_nil]
theorem j4 {n S j:Nat} (hj:j < n) (h:S.testBit j=false):(cols n (S ||| 2 ^ j)).length=(cols n S).length + 1/\(cols n (S ||| 2 ^ j)).getD (cols j S).length 0=j/\(cols n (S ||| 2 ^ j)).eraseIdx (cols j S).length=cols n S/\(cols n S).length - (cols j S).length=(above n j S).length/\(cols j S).length<=(cols n S).length:=by
 rw [xX hj h,pJ hj h]
 refine ⟨by simp only [List.length_append,List.length_cons]; rfl,?_,?_,by rw [List.length_append]; omega,by rw [List.length_append]; omega⟩
 · rw [List.getD_eq_getElem?_getD,List.getElem?_append_right (Nat.le_refl _),Nat.sub_self]
   rfl
 · rw [List.eraseIdx_append_of_length_le (Nat.le_refl _),Nat.sub_self]
   rfl
theorem tq (n S:Nat):cols (n + 1) S=if S.testBit n then cols n S++[n] else cols n S:=by
 unfold cols
 rw [List.range_succ,List.filter_append]
 cases h:S.testBit n with
 | true=>rw [List.filter_cons_of_pos h,List.filter_nil,if_pos rfl]
 | false=>rw [List.filter_cons_of_neg (by rw [h]; decide),List.filter_nil,List.append_nil,if_neg (by decide)]
theorem oD (G:Nat->Nat->Rat) (S:Nat):∀ n,ay (λc=>G c ((cols n S).getD c 0)) (cols n S).length=ay (λj=>if S.testBit j then G (cols j S).length j else 0) n
 | 0=>rfl
 | n + 1=>by
   rw [tq,ay,<- oD G S n]
   cases h:S.testBit n with
   | true=>
     rw [if_pos rfl,if_pos rfl,List.length_append,List.length_singleton,ay]
     have e1:(cols n S++[n]).getD (cols n S).length 0=n:=by
       rw [List.getD_eq_getElem?_getD,List.getElem?_append_right (Nat.le_refl _),Nat.sub_self]
       rfl
     rw [e1]
     refine congrArg (· + G (cols n S).length n) (au λc hc=>?_)
     rw [List.getD_eq_getElem?_getD,List.getElem?_append_left hc,<- List.getD_eq_getElem?_getD]
   | false=>rw [if_neg (by decide),if_neg (by decide),Rat.add_zero]
theorem ij {S j:Nat} (h:S.testBit j=true):(S ^^^ 2 ^ j).testBit j=false/\(S ^^^ 2 ^ j) ||| 2 ^ j=S/\∀ k,k ≠ j->(S ^^^ 2 ^ j).testBit k=S.testBit k:=by
 have a:∀ k,k ≠ j->(S ^^^ 2 ^ j).testBit k=S.testBit k:=λk hk=>by rw [Nat.testBit_xor,Nat.testBit_two_pow_of_ne (Ne.symm hk),Bool.xor_false]
 have b:(S ^^^ 2 ^ j).testBit j=false:=by rw [Nat.testBit_xor,Nat.testBit_two_pow_self,h]; rfl
 refine ⟨b,Nat.eq_of_testBit_eq λk=>?_,a⟩
 rw [Nat.testBit_or]
 by_cases z:k=j
 · subst z
   rw [Nat.testBit_two_pow_self,Bool.or_true,h]
 · rw [a k z,Nat.testBit_two_pow_of_ne (Ne.symm z),Bool.or_false]
theorem su {M:Nat->Nat->Rat} {n m S:Nat} (h:(cols n S).length=m + 1):fB M (cols n S)=ay (λj=>if S.testBit j then sgn (above n j S).length * M m j * fB M (cols n (S ^^^ 2 ^ j)) else 0) n:=by
 rw [qy h,<- h,oD (λc j=>sgn (m - c) * M m j * fB M ((cols n S).eraseIdx c)) S n]
 refine au λj hj=>?_
 cases hb:S.testBit j with
 | false=>rfl
 | true=>
   rw [if_pos rfl,if_pos rfl]
   obtain ⟨b1,b2,b3⟩:=ij hb
   obtain ⟨c1,c2,c3,c4,c5⟩:=j4 hj b1
   rw [b2] at c1 c2 c3
   have l1:cols j (S ^^^ 2 ^ j)=cols j S:=List.filter_congr λk hk=>b3 k (by have:=List.mem_range.mp hk; omega)
   have l2:above n j (S ^^^ 2 ^ j)=above n j S:=List.filter_congr λk hk=>by
     obtain ⟨q,_,rfl⟩:=List.mem_map.mp hk
     exact b3 _ (by omega)
   rw [l1] at c3 c4
   rw [l2] at c4
   rw [c3,<- c4,show (cols n (S ^^^ 2 ^ j)).length=m by omega]
theorem BC (S j:Nat):pA (S:Int) j=S.testBit j:=by
 unfold pA
 have e:(S:Int) / 2 ^ j=((S / 2 ^ j:Nat):Int):=by simp
 rw [e,PyProof.Rows.bitAnd_pp (Int.natCast_nonneg _) (by decide),Int.toNat_natCast,Nat.testBit_eq_decide_div_mod_eq]
 have:(S / 2 ^ j) &&& (1:Int).toNat=S / 2 ^ j % 2:=by show (S / 2 ^ j) &&& 1=_; rw [Nat.and_one_is_mod]
 rw [this]
 congr 1
 rw [eq_iff_iff]
 omega
theorem BZ (S j:Nat):mV (S:Int) j=((S ||| 2 ^ j:Nat):Int):=by
 unfold mV
 have e:(1:Int) * 2 ^ j=((2 ^ j:Nat):Int):=by simp
 rw [e]
 generalize 2 ^ j=y
 unfold Builtin.bitOr
 have h1:¬ (0<=Builtin.bitNot (S:Int)):=by unfold Builtin.bitNot; omega
 have h2:¬ (0<=Builtin.bitNot (y:Int)):=by unfold Builtin.bitNot; omega
 rw [PyProof.Rows.bitAnd_nn h1 h2]
 have h3:∀ x:Int,Builtin.bitNot (Builtin.bitNot x)=x:=λx=>by unfold Builtin.bitNot; omega
 rw [h3,h3,h3,Int.toNat_natCast,Int.toNat_natCast]
theorem CS (k:Nat):((sgZ (k:Int):Int):Rat)=sgn k:=by
 unfold sgZ sgn
 rw [Int.fmod_eq_emod_of_nonneg _ (by decide)]
 by_cases h:k % 2=0
 · rw [if_pos h,show (k:Int) % 2=0 by omega]; rfl
 · rw [if_neg h,show (k:Int) % 2=1 by omega]; rfl
theorem nJ (kv:List (Int × Int)) (k v j:Int):bQ (gA kv k v) j=if j=k then some v else bQ kv j:=by
 have e:=t6 (Ev.cP kv) (Sum.inl k) (Sum.inl j) (V.int v)
 rw [rX,iz,iz] at e
 by_cases h:j=k
 · rw [if_pos (congrArg Sum.inl h)] at e
   rw [if_pos h]
   cases z:bQ (gA kv k v) j with
   | none=>rw [z] at e; cases e
   | some x=>rw [z] at e; cases e; rfl
 · rw [if_neg (λz=>h (Sum.inl.inj z))] at e
   rw [if_neg h]
   cases z:bQ (gA kv k v) j <;> cases z':bQ kv j <;> rw [z,z'] at e <;> cases e <;> rfl
theorem nP (kv:List (Int × Int)) (k v:Int):(gA kv k v).map (·.1)=if (kv.any λp=>decide (p.1=k))=true then kv.map (·.1) else kv.map (·.1)++[k]:=by
 unfold gA
 split
 · rw [List.map_map]
   refine List.map_congr_left λp _=>?_
   simp only [Function.comp]
   split <;> rfl
 · rw [List.map_append]; rfl
theorem AQ {kv:List (Int × Int)} {k v:Int} (h:(kv.map (·.1)).Nodup):((gA kv k v).map (·.1)).Nodup:=by
 rw [nP]
 split
 · exact h
 · rename_i z
   rw [List.nodup_append]
   refine ⟨h,by simp,λa ha b hb e=>z ?_⟩
   obtain ⟨p,hp,rfl⟩:=List.mem_map.mp ha
   rw [List.mem_singleton] at hb
   exact List.any_eq_true.mpr ⟨p,hp,decide_eq_true (e.trans hb)⟩
theorem xA {kv:List (Int × Int)} {k v x:Int} (h:x ∈ (gA kv k v).map (·.1)):x=k\/x ∈ kv.map (·.1):=by
 rw [nP] at h
 split at h
 · exact .inr h
 · rcases List.mem_append.mp h with h | h
   · exact .inr h
   · exact .inl (List.mem_singleton.mp h)
theorem qz:∀ {kv:List (Int × Int)} {q:Int × Int},(kv.map (·.1)).Nodup->q ∈ kv->bQ kv q.1=some q.2
 | p :: t,q,h,hq=>by
   rw [List.map_cons,List.nodup_cons] at h
   unfold bQ
   by_cases z:p.1=q.1
   · rw [List.find?_cons_of_pos (by simp [z])]
     rcases List.mem_cons.mp hq with e | hq
     · rw [e]; rfl
     · exact absurd (List.mem_map.mpr ⟨q,hq,z.symm⟩) h.1
   · rw [List.find?_cons_of_neg (by simp [z])]
     rcases List.mem_cons.mp hq with e | hq
     · exact absurd (by rw [e]) z
     · exact qz h.2 hq
theorem vF:∀ {kv:List (Int × Int)} {k v:Int},bQ kv k=some v->(k,v) ∈ kv
 | p :: t,k,v,h=>by
   unfold bQ at h
   by_cases z:p.1=k
   · rw [List.find?_cons_of_pos (by simp [z])] at h
     cases h
     rw [<- z]
     exact List.mem_cons_self ..
   · rw [List.find?_cons_of_neg (by simp [z])] at h
     exact List.mem_cons_of_mem _ (vF h)
noncomputable def gv (kv:List (Int × Int)) (k:Int):Rat:=(((bQ kv k).getD 0:Int):Rat)
theorem Az (kv:List (Int × Int)) (k j x:Int):gv (gA kv k ((bQ kv k).getD 0 + x)) j=gv kv j + if j=k then (x:Rat) else 0:=by
 unfold gv
 rw [nJ]
 by_cases h:j=k
 · rw [if_pos h,if_pos h,h,Option.getD_some,Rat.intCast_add]
 · rw [if_neg h,if_neg h,Rat.add_zero]
theorem pT {n j S:Nat} (h:j + 1 < n):(above n j S).length=(if S.testBit (j + 1) then 1 else 0) + (above n (j + 1) S).length:=by
 unfold above
 obtain ⟨d,rfl⟩:=Nat.exists_eq_add_of_le (show j + 2<=n from h)
 rw [show j + 2 + d - (j + 1)=d + 1 by omega,show j + 2 + d - (j + 1 + 1)=d by omega,List.range_succ_eq_map,List.map_cons,List.map_map,List.filter_cons]
 have e:(List.range d).map ((j + 1 + ·) ∘ Nat.succ)=(List.range d).map (j + 1 + 1 + ·):=List.map_congr_left λk _=>by simp only [Function.comp]; omega
 rw [e,Nat.add_zero]
 split
 · rw [List.length_cons]; omega
 · omega
theorem pE {n S:Nat}:(above (n + 1) n S).length=0:=by
 unfold above
 rw [show n + 1 - (n + 1)=0 by omega]
 rfl
theorem kx (g:Nat->Rat):∀ n,ay g (n + 1)=g 0 + ay (λk=>g (k + 1)) n
 | 0=>by simp only [ay,Rat.add_zero,Rat.zero_add]
 | n + 1=>by
   rw [ay,kx g n,ay,Rat.add_assoc]
theorem pw (f:Nat->Rat):∀ n,ay (λt=>f (n - 1 - t)) n=ay f n
 | 0=>rfl
 | n + 1=>by
   rw [kx,ay,Rat.add_comm,show n + 1 - 1 - 0=n by omega,<- pw f n]
   refine congrArg (· + f n) (au λk hk=>?_)
   rw [show n + 1 - 1 - (k + 1)=n - 1 - k by omega]
noncomputable def qu (n S:Nat):Nat->Nat
 | 0=>0
 | c + 1=>qu n S c + if S.testBit (n - 1 - c) then 1 else 0
theorem lG {n S:Nat}:∀ c,c < n->qu n S c=(above n (n - 1 - c) S).length
 | 0,h=>by
   obtain ⟨m,rfl⟩:=Nat.exists_eq_succ_of_ne_zero (show n ≠ 0 by omega)
   rw [show m.succ - 1 - 0=m by omega,pE]
   rfl
 | c + 1,h=>by
   rw [qu,lG c (by omega),pT (n:=n) (j:=n - 1 - (c + 1)) (by omega),show n - 1 - (c + 1) + 1=n - 1 - c by omega]
   omega
noncomputable def evQ (n:Nat) (row:List Int) (S:Nat) (v:Rat) (T:Int) (j:Nat):Rat:=if S.testBit j then 0 else if T=((S ||| 2 ^ j:Nat):Int) then sgn (above n j S).length * ((row.getD j 0:Int):Rat) * v else 0
structure CI (n S:Nat) (row:List Int) (v:Int) (lk:List (Int × Int)) (c:Nat) (r:Int × List (Int × Int)):Prop where
 cnt:r.1=(qu n S c:Nat)
 val:∀ T,gv r.2 T=gv lk T + ay (λt=>evQ n row S v T (n - 1 - t)) c
 key:∀ x ∈ r.2.map (·.1),x ∈ lk.map (·.1)\/∃ j,j < n/\S.testBit j=false/\x=((S ||| 2 ^ j:Nat):Int)
 nd:(r.2.map (·.1)).Nodup
 old:∀ T,bQ lk T ≠ none->bQ r.2 T ≠ none
 new:∀ t < c,S.testBit (n - 1 - t)=false->bQ r.2 ((S ||| 2 ^ (n - 1 - t):Nat):Int) ≠ none
theorem rn {n S:Nat} {row:List Int} {v:Int} {lk:List (Int × Int)} (hn:(lk.map (·.1)).Nodup):∀ c,c<=n->CI n S row v lk c (cR n row (S:Int) v lk c)
 | 0,_=>⟨rfl,λT=>by rw [ay,Rat.add_zero]; rfl,λx h=>.inl h,hn,λ_ h=>h,λt h=>by omega⟩
 | c + 1,hc=>by
   obtain ⟨h1,h2,h3,h4,h5,h6⟩:=rn (n:=n) (S:=S) (row:=row) (v:=v) hn c (by omega)
   rw [cR,kY,BC,BZ]
   generalize cR n row (S:Int) v lk c=r at h1 h2 h3 h4 h5 h6 ⊢
   cases hb:S.testBit (n - 1 - c) with
   | true=>
     rw [if_pos rfl]
     refine ⟨by dsimp only; rw [h1,qu,hb,if_pos rfl]; omega,λT=>?_,h3,h4,h5,λt ht hf=>?_⟩
     · rw [ay,evQ,if_pos hb,Rat.add_zero]; exact h2 T
     · rcases Nat.lt_or_ge t c with z | z
       · exact h6 t z hf
       · obtain rfl:t=c:=by omega
         rw [hb] at hf; cases hf
   | false=>
     rw [if_neg (by decide)]
     refine ⟨by dsimp only; rw [h1,qu,hb]; rfl,λT=>?_,λx hx=>?_,AQ h4,λT hT=>?_,λt ht hf=>?_⟩
     · dsimp only
       have e:evQ n row S v T (n - 1 - c)=if T=((S ||| 2 ^ (n - 1 - c):Nat):Int) then sgn (qu n S c) * ((row.getD (n - 1 - c) 0:Int):Rat) * v else 0:=by
         unfold evQ
         rw [if_neg (by rw [hb]; decide),<- lG (n:=n) (S:=S) c (by omega)]
       rw [Az,h2,ay,<- Rat.add_assoc,e,h1,Rat.intCast_mul,Rat.intCast_mul,CS]
     · rcases xA hx with e | e
       · exact .inr ⟨n - 1 - c,by omega,hb,e⟩
       · exact h3 x e
     · dsimp only
       rw [nJ]
       split
       · exact nofun
       · exact h5 T hT
     · dsimp only
       rw [nJ]
       split
       · exact nofun
       · rename_i z
         rcases Nat.lt_or_ge t c with y | y
         · exact h6 t y hf
         · obtain rfl:t=c:=by omega
           exact absurd rfl z
structure MI (n:Nat) (row:List Int) (Sf:Nat->Nat) (vf:Nat->Rat) (t:Nat) (r:List (Int × Int)):Prop where
 val:∀ T,gv r T=ay (λs=>ay (evQ n row (Sf s) (vf s) T) n) t
 key:∀ x ∈ r.map (·.1),∃ s < t,∃ j,j < n/\(Sf s).testBit j=false/\x=((Sf s ||| 2 ^ j:Nat):Int)
 nd:(r.map (·.1)).Nodup
 new:∀ s < t,∀ j < n,(Sf s).testBit j=false->bQ r ((Sf s ||| 2 ^ j:Nat):Int) ≠ none
theorem oi {n:Nat} {row:List Int} {kv:List (Int × Int)} {Sf:Nat->Nat} (hS:∀ s < kv.length,(kv.getD s (0,0)).1=(Sf s:Int)):∀ t,t<=kv.length->MI n row Sf (λs=>gv kv (Sf s)) t (bG n row kv t)
 | 0,_=>⟨λT=>rfl,λx h=>by simp [bG] at h,by simp [bG],λs h=>by omega⟩
 | t + 1,ht=>by
   obtain ⟨h1,h2,h3,h4⟩:=oi (n:=n) (row:=row) hS t (by omega)
   rw [bG,hS t (by omega)]
   generalize bG n row kv t=r at h1 h2 h3 h4 ⊢
   obtain ⟨_,c2,c3,c4,c5,c6⟩:=rn (n:=n) (S:=Sf t) (row:=row) (v:=(bQ kv (Sf t:Int)).getD 0) h3 n (Nat.le_refl _)
   refine ⟨λT=>?_,λx hx=>?_,c4,λs hs j hj hf=>?_⟩
   · rw [c2,h1,ay,pw (evQ n row (Sf t) _ T)]
     rfl
   · rcases c3 x hx with e | ⟨j,e⟩
     · obtain ⟨s,hs,e⟩:=h2 x e
       exact ⟨s,by omega,e⟩
     · exact ⟨t,by omega,j,e⟩
   · rcases Nat.lt_or_ge s t with z | z
     · exact c5 _ (h4 s z j hj hf)
     · obtain rfl:s=t:=by omega
       have:=c6 (n - 1 - j) (by omega)
       rw [show n - 1 - (n - 1 - j)=j by omega] at this
       exact this hf
structure RI (n i:Nat) (M:Nat->Nat->Rat) (kv:List (Int × Int)):Prop where
 key:∀ x ∈ kv.map (·.1),∃ S:Nat,x=(S:Int)/\S < 2 ^ n/\(cols n S).length=i
 nd:(kv.map (·.1)).Nodup
 all:∀ S:Nat,S < 2 ^ n->(cols n S).length=i->bQ kv (S:Int) ≠ none/\gv kv (S:Int)=fB M (cols n S)
theorem uY {S T j:Nat} (h:S.testBit j=false) (e:T=S ||| 2 ^ j):T.testBit j=true/\S=T ^^^ 2 ^ j:=by
 have h1:T.testBit j=true:=by rw [e,Nat.testBit_or,Nat.testBit_two_pow_self,Bool.or_true]
 refine ⟨h1,Nat.eq_of_testBit_eq λk=>?_⟩
 obtain ⟨b1,_,b3⟩:=ij h1
 by_cases z:k=j
 · subst z; rw [h,b1]
 · rw [b3 k z,e,Nat.testBit_or,Nat.testBit_two_pow_of_ne (Ne.symm z),Bool.or_false]
theorem RI.step {n i:Nat} {M:Nat->Nat->Rat} {kv:List (Int × Int)} {row:List Int} (h:RI n i M kv) (hr:∀ j < n,((row.getD j 0:Int):Rat)=M i j):RI n (i + 1) M (bG n row kv kv.length):=by
 have hS:∀ s < kv.length,(kv.getD s (0,0)).1=((kv.getD s (0,0)).1.toNat:Int)/\(kv.getD s (0,0)).1.toNat < 2 ^ n/\(cols n (kv.getD s (0,0)).1.toNat).length=i:=λs hs=>by
   have hm:kv.getD s (0,0) ∈ kv:=by rw [List.getD_eq_getElem?_getD,List.getElem?_eq_getElem hs]; exact List.getElem_mem hs
   obtain ⟨S,e1,e2,e3⟩:=h.key _ (List.mem_map.mpr ⟨_,hm,rfl⟩)
   rw [e1,Int.toNat_natCast]
   exact ⟨rfl,e2,e3⟩
 obtain ⟨m1,m2,m3,m4⟩:=oi (n:=n) (row:=row) (kv:=kv) (Sf:=λs=>(kv.getD s (0,0)).1.toNat) (λs hs=>(hS s hs).1) kv.length (Nat.le_refl _)
 have off:∀ {T j:Nat},T < 2 ^ n->(cols n T).length=i + 1->j < n->T.testBit j=true->T ^^^ 2 ^ j < 2 ^ n/\(cols n (T ^^^ 2 ^ j)).length=i/\∃ s < kv.length,(kv.getD s (0,0)).1.toNat=T ^^^ 2 ^ j:=λ{T j} hT hl hj hb=>by
   obtain ⟨b1,b2,_⟩:=ij hb
   have l1:T ^^^ 2 ^ j < 2 ^ n:=Nat.xor_lt_two_pow hT (Nat.pow_lt_pow_right (by decide) hj)
   have l2:=(j4 hj b1).1
   rw [b2,hl] at l2
   refine ⟨l1,by omega,?_⟩
   obtain ⟨q,_⟩:=h.all _ l1 (by omega)
   cases z:bQ kv ((T ^^^ 2 ^ j:Nat):Int) with
   | none=>exact absurd z q
   | some v=>
     obtain ⟨s,hs⟩:=List.getElem?_of_mem (vF z)
     refine ⟨s,(List.getElem?_eq_some_iff.mp hs).1,?_⟩
     rw [List.getD_eq_getElem?_getD,hs]
     show (((T ^^^ 2 ^ j:Nat):Int)).toNat=_
     rw [Int.toNat_natCast]
 refine ⟨λx hx=>?_,m3,λT hT hl=>⟨?_,?_⟩⟩
 · obtain ⟨s,hs,j,hj,hf,rfl⟩:=m2 x hx
   obtain ⟨_,e2,e3⟩:=hS s hs
   exact ⟨_,rfl,Nat.or_lt_two_pow e2 (Nat.pow_lt_pow_right (by decide) hj),by rw [(j4 hj hf).1,e3]⟩
 · obtain ⟨j,hj⟩:=List.exists_mem_of_length_pos (l:=cols n T) (by omega)
   obtain ⟨hj,hb⟩:=jS.mp hj
   obtain ⟨_,_,s,hs,e⟩:=off hT hl hj hb
   obtain ⟨b1,b2,_⟩:=ij hb
   have:=m4 s hs j hj
   try dsimp only at this
   rw [e,b2] at this
   exact this b1
 · rw [m1,gp (λs j=>evQ n row (kv.getD s (0,0)).1.toNat (gv kv ((kv.getD s (0,0)).1.toNat:Int)) (T:Int) j) n kv.length,su hl]
   refine au λj hj=>?_
   cases hb:T.testBit j with
   | false=>
     rw [if_neg (by decide)]
     refine ed λs hs=>?_
     unfold evQ
     cases hf:(kv.getD s (0,0)).1.toNat.testBit j with
     | true=>rw [if_pos rfl]
     | false=>
       rw [if_neg (by decide),if_neg λz=>?_]
       have:=(uY hf (Int.ofNat.inj z)).1
       rw [hb] at this; cases this
   | true=>
     rw [if_pos rfl]
     obtain ⟨l1,l2,s0,hs0,e0⟩:=off hT hl hj hb
     obtain ⟨b1,b2,b3⟩:=ij hb
     have ea:above n j (T ^^^ 2 ^ j)=above n j T:=List.filter_congr λk hk=>by
       obtain ⟨q,_,rfl⟩:=List.mem_map.mp hk
       exact b3 _ (by omega)
     rw [<- (h.all _ l1 l2).2,<- hr j hj,<- ea,<- cW (λ_=>sgn (above n j (T ^^^ 2 ^ j)).length * ((row.getD j 0:Int):Rat) * gv kv ((T ^^^ 2 ^ j:Nat):Int)) s0 kv.length hs0]
     refine au λs hs=>?_
     unfold evQ dq
     by_cases z:s=s0
     · subst z
       rw [e0,b1,b2,if_neg (by decide),if_pos rfl,if_pos rfl,Rat.mul_one]
     · rw [if_neg z,Rat.mul_zero]
       cases hf:(kv.getD s (0,0)).1.toNat.testBit j with
       | true=>rw [if_pos rfl]
       | false=>
         rw [if_neg (by decide),if_neg λy=>z ?_]
         have e1:=(uY hf (Int.ofNat.inj y)).2
         have e2:(kv.map (·.1))[s]?=(kv.map (·.1))[s0]?:=by
           have g:∀ s < kv.length,(kv.map (·.1))[s]?=some (kv.getD s (0,0)).1:=λs hs=>by
             rw [List.getElem?_map,List.getD_eq_getElem?_getD,List.getElem?_eq_getElem hs]; rfl
           rw [g s hs,g s0 hs0,(hS s hs).1,(hS s0 hs0).1,e1,e0]
         exact (List.getElem?_inj (by rw [List.length_map]; exact hs) h.nd).mp e2
theorem RI.zero (n:Nat) (M:Nat->Nat->Rat):RI n 0 M [(0,1)]:=by
 have c0:∀ S:Nat,S < 2 ^ n->(cols n S).length=0->S=0:=λS hS h=>Nat.eq_of_testBit_eq λk=>by
   rw [Nat.zero_testBit]
   rcases Nat.lt_or_ge k n with z | z
   · cases hb:S.testBit k with
     | false=>rfl
     | true=>
       have:=jS.mpr ⟨z,hb⟩
       rw [List.length_eq_zero_iff.mp h] at this
       cases this
   · exact Nat.testBit_lt_two_pow (Nat.lt_of_lt_of_le hS (Nat.pow_le_pow_right (by decide) z))
 refine ⟨λx hx=>⟨0,?_,Nat.two_pow_pos n,?_⟩,by simp,λS hS h=>?_⟩
 · simpa using hx
 · unfold cols
   rw [List.filter_eq_nil_iff.mpr λa _=>by rw [Nat.zero_testBit]; decide]
   rfl
 · obtain rfl:=c0 S hS h
   refine ⟨nofun,?_⟩
   rw [fB,h]
   rfl
theorem jH {n:Nat} {M:Nat->Nat->Rat} {Ms:List (List Int)} (hl:Ms.length=n) (hM:∀ i < n,∀ j < n,(((Ms.getD i []).getD j 0:Int):Rat)=M i j):∀ i,i<=n->RI n i M (b9 Ms i)
 | 0,_=>RI.zero n M
 | i + 1,h=>by
   rw [b9,hl]
   exact (jH hl hM i (by omega)).step (hM i (by omega))
theorem wm {n b:Nat} {M:Nat->Nat->Rat} (hn:n<=7) (hM:∀ i < n,∀ j < n,ZB b (M i j)) {S:Nat}:ZB (n * (b + 3)) (fB M (cols n S)):=by
 unfold fB
 have hl:(cols n S).length<=n:=by
   have:=List.length_filter_le (λj=>S.testBit j) (List.range n)
   rw [List.length_range] at this
   exact this
 refine (tL (b:=b) (by omega) λi hi j hj=>hM i (by omega) _ ?_).mono (Nat.mul_le_mul_right _ hl)
 rw [List.getD_eq_getElem?_getD,List.getElem?_eq_getElem hj]
 exact (jS.mp (List.getElem_mem hj)).1
set_option exponentiation.threshold 9000 in
theorem zJ {n b:Nat} {M:Nat->Nat->Rat} {Ms:List (List Int)} (hn:n<=7) (hl:Ms.length=n) (hr:∀ r ∈ Ms,r.length=n/\∀ x ∈ r,x.natAbs<=2 ^ b) (hM:∀ i < n,∀ j < n,(((Ms.getD i []).getD j 0:Int):Rat)=M i j) (hb:n * (b + 3)<=8800) (hb':b<=8800) :
   ∃ d:Int,AD Ms=some d/\(d:Rat)=det n M:=by
 have zb:∀ i < n,∀ j < n,ZB b (M i j):=λi hi j hj=>by
   have h1:i < Ms.length:=by omega
   have h2:Ms.getD i [] ∈ Ms:=by rw [List.getD_eq_getElem?_getD,List.getElem?_eq_getElem h1]; exact List.getElem_mem h1
   refine ⟨_,(hM i hi j hj).symm,(hr _ h2).2 _ ?_⟩
   have h3:j < (Ms.getD i []).length:=by rw [(hr _ h2).1]; exact hj
   rw [List.getD_eq_getElem?_getD (l:=Ms.getD i []),List.getElem?_eq_getElem h3]
   exact List.getElem_mem h3
 have lm:∀ {x c:Nat},x<=2 ^ c->c<=8800->x < lim:=λ{x c} h hc=>Nat.lt_of_le_of_lt h (Nat.pow_lt_pow_right (by decide) (by omega))
 have ok:okZ Ms:=by
   refine ⟨by omega,λr h=>⟨by rw [hl]; exact (hr r h).1,λx hx=>lm ((hr r h).2 x hx) hb'⟩,λi hi p hp=>?_⟩
   have R:=jH hl hM i (by omega)
   obtain ⟨S,e1,e2,e3⟩:=R.key _ (List.mem_map.mpr ⟨p,hp,rfl⟩)
   have e4:=(R.all S e2 e3).2
   rw [<- e1] at e4
   unfold gv at e4
   rw [qz R.nd hp,Option.getD_some] at e4
   obtain ⟨z,e5,e6⟩:=wm (S:=S) hn zb
   rw [e5] at e4
   rw [Rat.intCast_inj.mp e4]
   exact lm e6 hb
 have R:=jH hl hM n (Nat.le_refl _)
 have bits:cols n (2 ^ n - 1)=List.range n:=List.filter_eq_self.mpr λk hk=>by
   rw [Nat.testBit_two_pow_sub_one]
   exact decide_eq_true (List.mem_range.mp hk)
 have p2:=Nat.two_pow_pos n
 obtain ⟨q1,q2⟩:=R.all (2 ^ n - 1) (by omega) (by rw [bits,List.length_range])
 have e1:((2 ^ n - 1:Nat):Int)=2 ^ n - 1:=by rw [Int.natCast_sub p2]; simp
 unfold AD
 rw [if_pos ok,hl,<- e1]
 cases z:bQ (b9 Ms n) ((2 ^ n - 1:Nat):Int) with
 | none=>exact absurd z q1
 | some d=>
   refine ⟨d,rfl,?_⟩
   unfold gv at q2
   rw [z,Option.getD_some] at q2
   rw [q2,fB,bits,List.length_range]
   refine aE λi hi j hj=>?_
   rw [List.getD_eq_getElem?_getD,List.getElem?_range hj]
   rfl
section
variable {P:Program} {w:World} {K:PySem.W.Frag} {mg:Str->Option Value} {base:Heap} {k:Nat} {f:Addr} {fd:FuncData} {qual:Str}
end
noncomputable def mi (M:Nat->Nat->Rat) (k:Nat) (ρ γ:Nat->Nat):Rat:=det k λr c=>M (ρ r) (γ c)
theorem Dm (M:Nat->Nat->Rat) (k:Nat) (ρ γ:Nat->Nat):mi (λi j=>M j i) k γ ρ=mi M k ρ γ:=kC k λr c=>M (ρ r) (γ c)
noncomputable def sld (M:Nat->Nat->Rat) (a b k:Nat):Rat:=mi M k (λr=>a + r) (λc=>b + c)
section
variable {P:Program} {w:World} {K:PySem.W.Frag} {mg:Str->Option Value} {base:Heap} {k:Nat} {f:Addr} {fd:FuncData} {qual:Str}
end
noncomputable def jT:Int->List Int->List Int
 | _,[]=>[]
 | c,b :: r=>c.fmod b :: jT (c.fdiv b) r
noncomputable def xU (c:Int) (bs:List Int):Int:=bs.foldl (λc b=>c.fdiv b) c
noncomputable def zU (c:Int) (k:Nat) (b:Int):Int:=(((((c * 48271 + (k:Int) * k * 69621 + (k:Int) * 16807 + 11).fmod 2147483647) * 40692 + c + 31 * (k:Int)).fmod 2147483399).fdiv 7).fmod b
noncomputable def xn (c:Int) (bs:List Int):List Int:=(List.range bs.length).map λk=>zU c k (bs.getD k 0)
noncomputable def nums (c:Int) (bs:List Int):List Int:=if (10:Int) ^ (18:Int).toNat<=xk c then jT c bs else xn c bs
theorem lC:∀ (bs:List Int) (c b:Int),jT c (bs++[b])=jT c bs++[(xU c bs).fmod b]
 | [],_,_=>rfl
 | a :: bs,c,b=>by rw [List.cons_append,jT,jT,lC bs]; rfl
theorem j5:∀ (bs:List Int) (c:Int),(jT c bs).length=bs.length
 | [],_=>rfl
 | _ :: bs,c=>congrArg (· + 1) (j5 bs _)
theorem kn (c:Int) (bs:List Int):(nums c bs).length=bs.length:=by
 unfold nums
 split
 · exact j5 bs c
 · simp [xn]
theorem sj:∀ (bs:List Int) (c:Int),(∀ b ∈ bs,0 < b)->∀ (i:Nat),i < bs.length->0<=(jT c bs).getD i 0/\(jT c bs).getD i 0 < bs.getD i 0
 | b :: bs,c,h,0,_=>by
   have:=h b (List.mem_cons_self ..)
   exact ⟨Int.fmod_nonneg_of_pos c this,Int.fmod_lt_of_pos c this⟩
 | b :: bs,c,h,i + 1,hi=>by
   have:=sj bs (c.fdiv b) (λx hx=>h x (List.mem_cons_of_mem _ hx)) i (by simpa using hi)
   simpa [jT] using this
theorem jA {c:Int} {bs:List Int} (h:∀ b ∈ bs,0 < b) {i:Nat} (hi:i < bs.length):0<=(nums c bs).getD i 0/\(nums c bs).getD i 0 < bs.getD i 0:=by
 unfold nums
 split
 · exact sj bs c h i hi
 · have hp:0 < bs.getD i 0:=h _ (by simp [hi])
   have e:(xn c bs).getD i 0=zU c i (bs.getD i 0):=by simp [xn,hi]
   rw [e]
   exact ⟨Int.fmod_nonneg_of_pos _ hp,Int.fmod_lt_of_pos _ hp⟩
theorem take_snoc {α:Type} {xs:List α} {i:Nat} (d:α) (h:i < xs.length):xs.take (i + 1)=xs.take i++[xs.getD i d]:=by
 rw [List.take_add_one,List.getElem?_eq_getElem h]
 simp [h]
theorem xT {b:Int} (h0:0 < b) (h:b < 2 ^ 60):0 < b/\aB b:=⟨h0,mkD (by omega) (by omega)⟩
noncomputable def cJ (ds:List D) (r:Sl):Prop:=∃ (c:Int) (bs:List Int),ds=[.int c,.lst (bs.map .int)]/\bs.length<=10000/\(∀ b ∈ bs,0 < b/\aB b)/\r=.o ((nums c bs).map .int)
section
variable {P:Program} {w:World} {K:PySem.W.Frag} {mg:Str->Option Value} {base:Heap} {k:Nat} {f:Addr} {fd:FuncData} {qual:Str}
theorem nL (F:Fun K "_law_numbers" qual (top 56) f fd) (hb:∀ x ∈ aj,mg x=none):aN P w K mg base CX0 (k + 1) f fd ["_law_cell_here","_law_bases"] (spD K cJ):=by
 refine fnD F iE hb (by rintro _ _ ⟨_,_,rfl,_⟩; rfl) ?_
 rintro _ _ ⟨c,bs,rfl,hl,hbs,rfl⟩ cdv A outer s H E b
 have nd:=iE.nd
 have hp:∀ i,i < bs.length->0 < bs.getD i 0/\aB (bs.getD i 0):=λi hi=>hbs _ (by simp [hi])
 refine aA 2 nd (cw ag) ?_
 refine cv (aZ (bh b (ae (aa 0) ag) nY) (aw af af (l3 ⟨by decide,by decide,by decide⟩)) Bs) (λh=>?_) λh=>?_
 · refine cb 3 (λi τ=>∃ s3,τ=[.d (.int (xU c (bs.take i))),.d (.lst (bs.map .int)),.o ((jT c (bs.take i)).map .int),s3,.un,.un]) b nd (aY (aa 1)) yj ⟨_,rfl⟩ (λi hi τ h=>?_) λτ h=>?_
   · obtain ⟨s3,rfl⟩:=h
     have hi:i < bs.length:=by simpa using hi
     obtain ⟨p1,p2⟩:=hp i hi
     refine rh 2 (aw (aa 0) (aa 3) (b7 (by omega))) ?_ ?_
     · rw [List.length_map,j5,List.length_take]; omega
     refine aA 0 nd (aw (aa 0) (aa 3) (a9 p2)) (aV ?_)
     apply ex1
     show [Sl.d (.int ((xU c (bs.take i)).fdiv (bs.getD i 0))),_,Sl.o _,_,_,_]=_
     rw [take_snoc 0 hi,lC,List.map_append]
     unfold xU
     rw [List.foldl_append]
     rfl
   · obtain ⟨s3,rfl⟩:=h
     refine jL 2 ?_
     rw [List.length_map,List.take_of_length_le (Nat.le_refl _)]
     unfold nums
     rw [if_pos (of_decide_eq_true h)]
 · refine yX 4 3 (λi τ=>∃ s3 s4 s5,τ=[.d (.int c),.d (.lst (bs.map .int)),.o (((List.range i).map λk=>zU c k (bs.getD k 0)).map .int),s3,s4,s5]) b nd (A2 b (aa 1)) Bb ⟨_,_,_,rfl⟩ (λi hi τ h=>?_) λτ h=>?_
   · obtain ⟨s3,s4,s5,rfl⟩:=h
     have hi:i < bs.length:=by rw [iq,List.length_map] at hi; exact hi
     obtain ⟨p1,p2⟩:=hp i hi
     refine aA 5 nd (aw (aw (aw (aw (aw (aa 0) af (aU (mkR (by decide)))) (aw (aw (aa 4) (aa 4) (aU (mkL (by omega)))) af (aU (mkR (by decide)))) bB) (aw (aa 4) af (aU (mkR (by decide)))) bB) af bB) af (b7 (by decide))) ?_
     refine rh 2 (aw (aw (aw (aw (aw (aw (aa 5) af (aU (mkR (by decide)))) (aa 0) bB) (aw af (aa 4) (aU (mkL (by decide)))) bB) af (b7 (by decide))) af (a9 (mkD (by decide) (by decide)))) (aa 3) (b7 (by omega))) ?_ (aV ?_)
     · rw [List.length_map,List.length_map,List.length_range]; omega
     apply ex3
     rw [List.range_succ,List.map_append,List.map_append]
     rfl
   · obtain ⟨s3,s4,s5,rfl⟩:=h
     refine jL 2 ?_
     rw [iq,List.length_map]
     unfold nums
     rw [if_neg (of_decide_eq_false h)]
     rfl
end
set_option exponentiation.threshold 9000 in
theorem r9 {i:Int} (h:i.natAbs < lim):i.natAbs.log2 < 1000000:=by
 rcases Nat.eq_zero_or_pos i.natAbs with h0 | hp
 · rw [h0]; decide
 · exact Nat.lt_of_lt_of_le ((Nat.log2_lt (by omega)).mpr h) (by decide)
theorem nO (b:Int):sgZ b=1\/sgZ b=-1:=by
 unfold sgZ
 rw [Int.fmod_eq_emod_of_nonneg _ (by decide)]
 omega
theorem kl (n:Nat) (row:List Int) (k v:Int) (kv:List (Int × Int)):∀ c,(cR n row k v kv c).2.length<=kv.length + c
 | 0=>Nat.le_refl _
 | c + 1=>by
   have:=kl n row k v kv c
   rw [cR,kY]
   split
   · dsimp only; omega
   · have:=xv (cR n row k v kv c).2 (mV k (n - 1 - c)) ((bQ (cR n row k v kv c).2 (mV k (n - 1 - c))).getD 0 + sgZ (cR n row k v kv c).1 * row.getD (n - 1 - c) 0 * v)
     dsimp only
     omega
theorem i3 (n:Nat) (row:List Int) (kv:List (Int × Int)):∀ t,(bG n row kv t).length<=t * n
 | 0=>by rw [bG,List.length_nil]; omega
 | t + 1=>by
   have h1:=i3 n row kv t
   have h2:=kl n row (kv.getD t (0,0)).1 ((bQ kv (kv.getD t (0,0)).1).getD 0) (bG n row kv t) n
   rw [bG,Nat.succ_mul]
   omega
theorem nZ (Ms:List (List Int)):∀ i,(b9 Ms i).length<=Ms.length ^ i
 | 0=>Nat.le_refl 1
 | i + 1=>by
   rw [b9,Nat.pow_succ]
   exact Nat.le_trans (i3 _ _ _ _) (Nat.mul_le_mul_right _ (nZ Ms i))
noncomputable def dtR (r:List Int):D:=.lst (r.map .int)
noncomputable def dtZ (Ms:List (List Int)):Int:=(bQ (b9 Ms Ms.length) (2 ^ Ms.length - 1)).getD 0
structure Dt (n b:Nat) (Ms:List (List Int)):Prop where
 n7:n<=7
 len:Ms.length=n
 row:∀ r ∈ Ms,r.length=n/\∀ x ∈ r,x.natAbs<=2 ^ b
 b1:n * (b + 3)<=8800
 b2:b<=8800
noncomputable def dtM (Ms:List (List Int)) (i j:Nat):Rat:=(((Ms.getD i []).getD j 0:Int):Rat)
theorem Dt.ok {n b:Nat} {Ms:List (List Int)} (h:Dt n b Ms):okZ Ms/\bQ (b9 Ms n) (2 ^ n - 1)=some (dtZ Ms)/\((dtZ Ms:Int):Rat)=det n (dtM Ms):=by
 obtain ⟨d,e1,e2⟩:=zJ (M:=dtM Ms) h.n7 h.len h.row (λ_ _ _ _=>rfl) h.b1 h.b2
 unfold AD at e1
 split at e1
 · rename_i ok
   have e3:dtZ Ms=d:=by unfold dtZ; rw [e1]; rfl
   rw [h.len] at e1
   exact ⟨ok,by rw [e3]; exact e1,by rw [e3]; exact e2⟩
 · cases e1
theorem Dt.ri {n b:Nat} {Ms:List (List Int)} (h:Dt n b Ms) (i:Nat) (hi:i<=n):RI n i (dtM Ms) (b9 Ms i):=jH h.len (λ_ _ _ _=>rfl) i hi
theorem atR {row:List Int} {j:Nat} (h:j < row.length):atI (row.map D.int) (j:Int)=some (.int (row.getD j 0)):=uG (i:=(j:Int)) (by omega) (by omega)
noncomputable def mR (ds:List D) (r:Sl):Prop:=∃ (n b:Nat) (Ms:List (List Int)),ds=[.lst (Ms.map dtR)]/\Dt n b Ms/\r=.d (.int (dtZ Ms))
theorem B9 {Ms:List (List Int)}:∀ i (h:i < (Ms.map dtR).length),(Ms.map dtR)[i]=dtR (Ms.getD i []):=λi h=>by
 have:i < Ms.length:=by simpa using h
 simp [this]
section
variable {P:Program} {w:World} {K:PySem.W.Frag} {mg:Str->Option Value} {base:Heap} {k:Nat} {f:Addr} {fd:FuncData} {qual:Str}
set_option exponentiation.threshold 9000 in
set_option maxHeartbeats 1000000 in
theorem uK (F:Fun K "_law_det" qual (top 65) f fd) (hb:∀ x ∈ aj,mg x=none):aN P w K mg base CX0 (k + 1) f fd ["_law_rows_here"] (spD K mR):=by
 refine fnD F oX hb (by rintro _ _ ⟨_,_,_,rfl,_⟩; rfl) ?_
 rintro _ _ ⟨n,b0,Ms,rfl,h,rfl⟩ cdv A outer s H E b
 have nd:=oX.nd
 obtain ⟨ok,eD,_⟩:=h.ok
 have hu:(Xc P w K mg base _ qual (top 65) f cdv A outer s H E).A.units + 1 < cLine:=Nat.lt_of_le_of_lt (Nat.add_le_add_left (by decide) _) b.room.units
 have hlen:(Ms.map dtR).length=n:=by rw [List.length_map,h.len]
 have lim7:∀ i,i<=n->(b9 Ms i).length<=823543:=λi hi=>Nat.le_trans (nZ Ms i) (by
   rw [h.len]
   exact Nat.le_trans (Nat.pow_le_pow_left h.n7 i) (Nat.pow_le_pow_right (by decide) (Nat.le_trans hi h.n7)))
 refine aA 1 nd AE (yN 1 ?_)
 refine cb 2 (g:=λi=>dtR (Ms.getD i [])) (λi τ=>i<=n/\∃ s2 s3 s4 s5 s6 s7 s8,τ=[.d (.lst (Ms.map dtR)),.d (.box (bxZ (b9 Ms i))),s2,s3,s4,s5,s6,s7,s8]) b nd (aY (aa 0)) B9 ⟨Nat.zero_le _,.un,.un,.un,.un,.un,.un,.un,rfl⟩ (λi hi τ z=>?_) λτ z=>?_
 · obtain ⟨_,s2,s3,s4,s5,s6,s7,s8,rfl⟩:=z
   have hi:i < n:=by rw [hlen] at hi; exact hi
   have hm:Ms.getD i [] ∈ Ms:=by rw [List.getD_eq_getElem?_getD,List.getElem?_eq_getElem (by rw [h.len]; exact hi)]; exact List.getElem_mem _
   have hrow:=h.row _ hm
   have hlim:∀ x ∈ Ms.getD i [],x.natAbs < lim:=(ok.2.1 _ hm).2
   have R:=h.ri i (by omega)
   have hkv:=ok.2.2 i (by rw [h.len]; exact hi)
   have hl7:=lim7 i (by omega)
   have eN:b9 Ms (i + 1)=bG n (Ms.getD i []) (b9 Ms i) (b9 Ms i).length:=by rw [b9,h.len]
   rw [eN]
   generalize b9 Ms i=kv at R hkv hl7 ⊢
   generalize Ms.getD i []=row at hm hrow hlim ⊢
   refine aA 3 nd zW ?_
   refine cb 4 (g:=λt=>.int (kv.getD t (0,0)).1) (λt τ=>∃ s4 s5 s6 s7 s8,τ=[.d (.lst (Ms.map dtR)),.d (.box (bxZ kv)),.d (dtR row),.x (exZ (bG n row kv t)),s4,s5,s6,s7,s8]) b nd (xK (aa 1)) xZ ⟨s4,s5,s6,s7,s8,rfl⟩ (λt ht τ z=>?_) λτ z=>?_
   · obtain ⟨s4,s5,s6,s7,s8,rfl⟩:=z
     have ht:t < kv.length:=by simpa using ht
     have hq:kv.getD t (0,0) ∈ kv:=by rw [List.getD_eq_getElem?_getD,List.getElem?_eq_getElem ht]; exact List.getElem_mem ht
     have hg:bQ kv (kv.getD t (0,0)).1=some (kv.getD t (0,0)).2:=qz R.nd hq
     have hv:=hkv _ hq
     have hml:=i3 n row kv t
     have hml2:t * n<=823543 * 7:=Nat.mul_le_mul (by omega) h.n7
     have eM:bG n row kv (t + 1)=(cR n row (kv.getD t (0,0)).1 (kv.getD t (0,0)).2 (bG n row kv t) n).2:=by rw [bG,hg]; rfl
     rw [eM]
     generalize bG n row kv t=lk at hml ⊢
     generalize (kv.getD t (0,0)).1=m at hg ⊢
     generalize (kv.getD t (0,0)).2=v at hg hv ⊢
     refine aA 5 nd af ?_
     refine cb 6 (g:=λc=>.int ((n - 1 - c:Nat):Int)) (λc τ=>∃ s6 s7 s8,τ=[.d (.lst (Ms.map dtR)),.d (.box (bxZ kv)),.d (dtR row),.x (exZ (cR n row m v lk c).2),.d (.int m),.d (.int (cR n row m v lk c).1),s6,s7,s8]) b nd (DM (n:=n) b (bh b (ae (aa 0) ag) (B1 hlen)) (by have:=h.n7; omega)) Dp ⟨s6,s7,s8,rfl⟩ (λc hc τ z=>?_) λτ z=>?_
     · obtain ⟨s6,s7,s8,rfl⟩:=z
       have hc:c < n:=by rw [iy] at hc; exact hc
       have n7:=h.n7
       have hcl:=kl n row m v lk c
       have hj:n - 1 - c < row.length:=by rw [hrow.1]; omega
       have eC:cR n row m v lk (c + 1)=kY row m v (n - 1 - c) (cR n row m v lk c):=rfl
       rw [eC]
       generalize cR n row m v lk c=st at hcl ⊢
       generalize n - 1 - c=j at hj ⊢
       have j7:j < 7:=by have:=hrow.1; omega
       refine mP (M:=λτ=>∃ s6 s7 s8,τ=[.d (.lst (Ms.map dtR)),.d (.box (bxZ kv)),.d (dtR row),.x (exZ (kY row m v j st).2),.d (.int m),.d (.int (kY row m v j st).1),s6,s7,s8]) (aZ (aw (aw (aa 4) (aa 6) (A9 (by omega))) af BQ) af fK) (λz=>?_) (λz=>?_) λτ z=>by
         obtain ⟨s6,s7,s8,rfl⟩:=z
         exact aV ⟨s6,s7,s8,rfl⟩
       · have z:pA m j=true:=by
           unfold pA
           rw [Int.toNat_natCast] at z
           exact z
         have e:kY row m v j st=(st.1 + 1,st.2):=by unfold kY; rw [if_pos z]
         rw [e]
         exact aA 5 nd (aw (aa 5) af bB) (aV ⟨_,_,_,rfl⟩)
       · have z:pA m j=false:=by
           unfold pA
           rw [Int.toNat_natCast] at z
           exact z
         have e:kY row m v j st=(st.1,gA st.2 (mV m j) ((bQ st.2 (mV m j)).getD 0 + sgZ st.1 * row.getD j 0 * v)):=by unfold kY; rw [if_neg (by rw [z]; decide)]
         have hx:(row.getD j 0).natAbs < lim:=hlim _ (by rw [List.getD_eq_getElem?_getD,List.getElem?_eq_getElem hj]; exact List.getElem_mem hj)
         have s1:aC (sgZ st.1) (row.getD j 0):=mkL (by rcases nO st.1 with h | h <;> rw [h] <;> decide)
         have s2:aC (sgZ st.1 * row.getD j 0) v:=by
           refine .inr (.inr ⟨r9 ?_,r9 hv⟩)
           rw [Int.natAbs_mul]
           rcases nO st.1 with h | h <;> rw [h] <;> simpa using hx
         rw [e]
         refine aA 7 nd (aw (aa 4) (aw af (aa 6) (yD ⟨by omega,by omega,by decide⟩)) DK) ?_
         rw [Int.toNat_natCast]
         show PSs _ _ (dS K [.d (.lst (Ms.map dtR)),.d (.box (bxZ kv)),.d (dtR row),.x (exZ st.2),.d (.int m),.d (.int st.1),.d (.int (j:Nat)),.d (.int (mV m j)),_] _)
         refine aA 8 nd (aw af (aw af (aw (aa 5) af (b7 (by decide))) (aU (mkL (by decide)))) cY) ?_
         refine AK 3 hu rfl (aa 7) (aw (yf 3 hu rfl (aa 7) af) (aw (aw (aa 8) (aL (aa 2) (aa 6) (aP (atR hj))) (aU s1)) (vE hu (aa 1) (aa 4) hg wB) (aU s2)) bB) ?_ (aV ⟨_,_,_,rfl⟩)
         have:sizeLine > 10000000:=by decide
         omega
     · obtain ⟨s6,s7,s8,rfl⟩:=z
       rw [iy]
       exact aV ⟨_,_,_,_,_,rfl⟩
   · obtain ⟨s4,s5,s6,s7,s8,rfl⟩:=z
     rw [List.length_map]
     exact yN 3 (aA 1 nd (aa 3) (aV ⟨hi,_,_,_,_,_,_,_,rfl⟩))
 · obtain ⟨_,s2,s3,s4,s5,s6,s7,s8,rfl⟩:=z
   rw [hlen]
   refine aK (vE hu (aa 1) (aw (aw af (bh b (ae (aa 0) ag) (B1 hlen)) (yD ⟨by omega,by have:=h.n7; omega,by decide⟩)) af cY) ?_ wb) rfl
   rw [Int.toNat_natCast,Int.one_mul]
   exact eD
end
noncomputable def frD (q:Rat):D:=.tup [.int q.num,.int (q.den:Nat)]
theorem eP (x:Rat):x * (((x.den:Nat):Int):Rat)=(x.num:Rat):=by
 have h:mkRat x.num x.den=x:=by rw [<- Rat.normalize_eq_mkRat x.den_nz]; exact Rat.normalize_self x
 rw [Rat.mkRat_eq_div] at h
 have hd:((x.den:Nat):Rat) ≠ 0:=λz=>x.den_nz (Rat.natCast_eq_zero_iff.mp z)
 rw [Rat.intCast_natCast]
 conv=>lhs; lhs; rw [<- h]
 exact Rat.div_mul_cancel hd
theorem cO {t b:Int} {x:Rat} (hb:0 < b) (h:(t:Rat)=x * (b:Rat)):x.num=t / (Int.gcd t b:Int)/\((x.den:Nat):Int)=b / (Int.gcd t b:Int):=by
 have hb0:((b.toNat:Nat):Rat) ≠ 0:=λz=>by have:=Rat.natCast_eq_zero_iff.mp z; omega
 have hbb:((b:Int):Rat)=((b.toNat:Nat):Rat):=by rw [<- Rat.intCast_natCast,Int.toNat_of_nonneg (by omega)]
 have e:x=mkRat t b.toNat:=by
   rw [Rat.mkRat_eq_div,h,hbb,Rat.mul_div_cancel hb0]
 have g:b.toNat.gcd t.natAbs=Int.gcd t b:=by
   rw [Int.gcd,Nat.gcd_comm,show b.natAbs=b.toNat by omega]
 have nz:¬ b.toNat=0:=by omega
 constructor
 · rw [e,Rat.num_mkRat,if_neg nz,g]
 · rw [e,Rat.den_mkRat,if_neg nz,g,Int.natCast_ediv,Int.toNat_of_nonneg (by omega)]
theorem den_pos (q:Rat):0 < ((q.den:Nat):Int):=by have:=q.den_pos; omega
theorem qH {b:Int} (hb:0 < b):(b:Rat) ≠ 0:=λz=>by have:=Rat.intCast_eq_zero_iff.mp z; omega
noncomputable def Bd (n:Nat) (i:Int):Prop:=i.natAbs < 2 ^ n
theorem Bd.mono {m n:Nat} {i:Int} (h:Bd m i) (hm:m<=n):Bd n i:=Nat.lt_of_lt_of_le h (Nat.pow_le_pow_right (by decide) hm)
theorem Bd.log {n:Nat} {i:Int} (h:Bd n i) (hn:0 < n):i.natAbs.log2 < n:=by
 rcases Nat.eq_zero_or_pos i.natAbs with z | z
 · rw [z]; exact hn
 · exact (Nat.log2_lt (by omega)).mpr h
theorem Bd.mul {m n:Nat} {i j:Int} (h:Bd m i) (g:Bd n j):Bd (m + n) (i * j):=by
 unfold Bd at *
 rw [Int.natAbs_mul,Nat.pow_add]
 rcases Nat.eq_zero_or_pos j.natAbs with z | z
 · rw [z,Nat.mul_zero]; exact Nat.mul_pos (Nat.two_pow_pos m) (Nat.two_pow_pos n)
 · exact Nat.lt_of_lt_of_le (Nat.mul_lt_mul_of_pos_right h z) (Nat.mul_le_mul_left _ (Nat.le_of_lt g))
theorem Bd.add {n:Nat} {i j:Int} (h:Bd n i) (g:Bd n j):Bd (n + 1) (i + j):=by
 unfold Bd at *
 rw [Nat.pow_succ]
 omega
theorem Bd.neg {n:Nat} {i:Int} (h:Bd n i):Bd n (-i):=by unfold Bd at *; rwa [Int.natAbs_neg]
theorem Bd.aC {m n:Nat} {i j:Int} (h:Bd m i) (g:Bd n j) (hm:m<=1000000) (hn:n<=1000000):aC i j:=
 .inr (.inr ⟨(h.mono (Nat.le_succ_of_le hm)).log (by omega) |> λz=>by
   rcases Nat.eq_zero_or_pos i.natAbs with q | q
   · rw [q]; decide
   · exact Nat.lt_of_lt_of_le ((Nat.log2_lt (by omega)).mpr h) hm,by
   rcases Nat.eq_zero_or_pos j.natAbs with q | q
   · rw [q]; decide
   · exact Nat.lt_of_lt_of_le ((Nat.log2_lt (by omega)).mpr g) hn⟩)
theorem Bd.aB {n:Nat} {j:Int} (h:Bd n j) (h0:j ≠ 0) (hn:n<=9000):aB j:=⟨h0,Nat.lt_of_lt_of_le ((Nat.log2_lt (by omega)).mpr h) hn⟩
theorem Bd.of_dvd {n:Nat} {i j:Int} (h:Bd n j) (hd:i ∣ j) (h0:j ≠ 0):Bd n i:=Nat.lt_of_le_of_lt (Nat.le_of_dvd (by omega) (Int.natAbs_dvd_natAbs.mpr hd)) h
theorem Bd.ediv {n:Nat} {i:Int} (h:Bd n i) (j:Int):Bd n (i / j):=Nat.lt_of_le_of_lt (Int.natAbs_ediv_le_natAbs i j) h
theorem Bd.gcd {n:Nat} {i j:Int} (h:Bd n j) (h0:j ≠ 0):Bd n (Int.gcd i j:Int):=h.of_dvd (Int.gcd_dvd_right ..) h0
theorem fg {i j:Int} (h0:j ≠ 0):(Int.gcd i j:Int) ≠ 0:=λz=>h0 (by have:=Int.gcd_eq_zero_iff.mp (Int.ofNat_eq_zero.mp z); exact this.2)
theorem aT {i j:Int} (t:Int):t.fdiv (Int.gcd i j:Int)=t / (Int.gcd i j:Int):=Int.fdiv_eq_ediv_of_nonneg _ (Int.natCast_nonneg _)
structure Sq (n:Nat) (q:Rat):Prop where
 num:Bd n q.num
 den:Bd n (q.den:Nat)
theorem Sq.mono {m n:Nat} {q:Rat} (h:Sq m q) (hm:m<=n):Sq n q:=⟨h.num.mono hm,h.den.mono hm⟩
theorem Sq.cO {n:Nat} {t b:Int} {x:Rat} (hb:0 < b) (h:(t:Rat)=x * (b:Rat)) (h1:Bd n t) (h2:Bd n b):Sq n x:=by
 obtain ⟨e1,e2⟩:=K59.cO hb h
 exact ⟨by rw [e1]; exact h1.ediv _,by rw [e2]; exact h2.ediv _⟩
noncomputable def whl (x:D):Bool:=jy .int x && !jy .bool x
noncomputable def eU (ds:List D) (r:Sl):Prop:=∃ x,ds=[x]/\r=.d (.bl (whl x))
noncomputable def aX (ds:List D) (r:Sl):Prop:=∃ a b:Int,ds=[.int a,.int b]/\r=.d (.int (Int.gcd a b:Int))
theorem hU (i:Int):xk i=(i.natAbs:Int):=by unfold xk; omega
noncomputable def k9:D->Bool
 | .tup [.int a,.int b]=>decide (1<=b) && decide ((Int.gcd a b:Int)=1)
 | _=>false
theorem xQ (q:Rat):k9 (frD q)=true:=by
 have h1:=den_pos q
 have h2:Int.gcd q.num (q.den:Nat)=1:=q.reduced
 show (decide ((1:Int)<=(q.den:Nat)) && decide ((Int.gcd q.num (q.den:Nat):Int)=1))=true
 rw [h2,decide_eq_true (show (1:Int)<=(q.den:Nat) by omega)]
 rfl
theorem t4 {xs:List D} (h:xs.length ≠ 2):k9 (.tup xs)=false:=by
 unfold k9
 split
 · rename_i e; cases e; exact absurd rfl h
 · rfl
noncomputable def cC (ds:List D) (r:Sl):Prop:=∃ x,ds=[x]/\r=.d (.bl (k9 x))
noncomputable def bI (ds:List D) (r:Sl):Prop:=∃ (t b:Int) (q:Rat),ds=[.int t,.int b]/\b ≠ 0/\Bd 8999 b/\(t:Rat)=q * (b:Rat)/\r=.d (frD q)
noncomputable def gK (ds:List D) (r:Sl):Prop:=∃ (t b:Int) (q:Rat),ds=[.int t,.int b]/\b ≠ 0/\Bd 8999 b/\(t:Rat)=q * (b:Rat)/\r=.d (frD q)
noncomputable def bX (ds:List D) (r:Sl):Prop:=∃ xs,ds=[.lst xs]/\r=.d (.bl (decide ((1:Int)<=(xs.length:Nat)) && decide (((xs.length:Nat):Int)<=7)))
section
variable {P:Program} {w:World} {K:PySem.W.Frag} {mg:Str->Option Value} {base:Heap} {k:Nat} {f:Addr} {fd:FuncData} {qual:Str}
theorem oR (F:Fun K "is_whole" qual (top 23) f fd) (hb:∀ x ∈ aj,mg x=none):aN P w K mg base CX0 (k + 1) f fd ["thing"] (spD K eU):=by
 refine fnD F nU hb (by rintro _ _ ⟨_,rfl,_⟩; rfl) ?_
 rintro _ _ ⟨x,rfl,rfl⟩ cdv A outer s H E b
 exact aK (fP (eF .int b (aa 0)) λh=>(iu (yF (eF .bool b (aa 0))))) rfl
theorem iC (F:Fun K "common_divisor" qual (top 25) f fd) (hb:∀ x ∈ aj,mg x=none):aN P w K mg base CX0 (k + 1) f fd ["one","other"] (spD K aX):=by
 refine fnD F dr hb (by rintro _ _ ⟨_,_,rfl,_⟩; rfl) ?_
 rintro _ _ ⟨x,y,rfl,rfl⟩ cdv A outer s H E b
 have nd:=dr.nd
 refine aA 2 nd (bh b (ae (aa 0) ag) nY) (aA 3 nd (bh b (ae (aa 1) ag) nY) ?_)
 rw [hU,hU]
 refine rZ (λn t τ=>∃ (g:Nat) (s4:Sl),Nat.gcd g n=Int.gcd x y/\t=(!decide ((n:Int)=0))/\τ=[.d (.int x),.d (.int y),.d (.int g),.d (.int n),s4]) b ⟨_,_,_,_,rfl,rfl,rfl⟩ (λn t τ h=>?_) (λn τ h=>?_) λn τ h=>?_
 · obtain ⟨g,s4,_,rfl,rfl⟩:=h
   exact aZ (aa 3) af jM
 · obtain ⟨g,s4,hg,ht,rfl⟩:=h
   have hl:n ≠ 0:=λz=>by simp [z] at ht
   have e:(g:Int).fmod n=((g % n:Nat):Int):=by rw [Int.fmod_eq_emod_of_nonneg _ (by omega)]; rfl
   refine aA 4 nd (aw (aa 2) (aa 3) (b7 (by omega))) ?_
   rw [e]
   refine aA 2 nd (aa 3) (aA 3 nd (aa 4) (aV ⟨g % n,_,Nat.mod_lt g (Nat.pos_of_ne_zero hl),n,_,?_,rfl,rfl⟩))
   rw [<- hg,Nat.gcd_comm n,<- Nat.gcd_rec,Nat.gcd_comm]
 · obtain ⟨g,s4,hg,ht,rfl⟩:=h
   have hl:n=0:=by simpa using ht
   refine aK (aa 2) ?_
   rw [<- hg,hl,Nat.gcd_zero_right]
theorem jN (F:Fun K "is_fraction" qual (top 24) f fd) (hb:∀ x ∈ aj,mg x=none) (c_is_whole:Cal P w K mg base k "is_whole" eU) (c_common_divisor:Cal P w K mg base k "common_divisor" aX):aN P w K mg base CX0 (k + 1) f fd ["thing"] (spD K cC):=by
 refine fnD F j6 hb (by rintro _ _ ⟨_,rfl,_⟩; rfl) ?_
 rintro _ _ ⟨x,rfl,rfl⟩ cdv A outer s H E b
 by_cases ht:jy .tuple x=true
 · obtain ⟨xs,rfl⟩:∃ xs,x=.tup xs:=by cases x <;> first | exact ⟨_,rfl⟩ | cases ht
   refine cv (PW.pt (d8 (bO (bC (eF .tuple b (aa 0)))) λh=>(df (aZ (bh b (ae (aa 0) ag) qK) af jM)))) (λh=>?_) λh=>?_
   · refine aK kW ?_
     have h:(!decide ((xs.length:Int)=2))=true:=h
     have:xs.length ≠ 2:=λz=>by rw [z] at h; cases h
     rw [t4 this]
   · have h:(!decide ((xs.length:Int)=2))=false:=h
     have h2:xs.length=2:=by simp at h; omega
     obtain ⟨u,v,rfl⟩:∃ u v,xs=[u,v]:=by
       match xs,h2 with
       | [u,v],_=>exact ⟨u,v,rfl⟩
     refine cv (PW.pt (d8 (bO (bC (x_call b c_is_whole (ae (aL (aa 0) af (aO (aD (i:=0) rfl))) ag) ⟨_,rfl,rfl⟩))) λh=>(df (bO (bC (x_call b c_is_whole (ae (aL (aa 0) af (aO (aD (i:=1) rfl))) ag) ⟨_,rfl,rfl⟩)))))) (λh=>?_) λh=>?_
     · refine aK kW ?_
       have:k9 (.tup [u,v])=false:=by cases u <;> cases v <;> first | rfl | cases h
       rw [this]
     · obtain ⟨i,j,rfl,rfl⟩:∃ i j,u=.int i/\v=.int j:=by cases u <;> cases v <;> first | exact ⟨_,_,rfl,rfl⟩ | cases h
       exact aK (fP (fh (aL (aa 0) af (aO (aD (i:=1) rfl))) af Bs) λh=>(iu (fh (x_call b c_common_divisor (ae (aL (aa 0) af (aO (aD (i:=0) rfl))) (ae (aL (aa 0) af (aO (aD (i:=1) rfl))) ag)) ⟨_,_,rfl,rfl⟩) af fK))) rfl
 · have e:jy .tuple x=false:=by simpa using ht
   have ef:k9 x=false:=by cases x <;> first | rfl | cases e
   refine cv (PW.pt (d8 (q:=true) (bO (bC (eF .tuple b (aa 0)))) λh=>(by rw [e] at h; cases h))) (λh=>?_) λh=>?_
   · refine aK kW ?_
     rw [ef]
   · rw [Bool.or_true] at h; cases h
theorem gH (F:Fun K "in_lowest_terms" qual (top 26) f fd) (hb:∀ x ∈ aj,mg x=none) (c_common_divisor:Cal P w K mg base k "common_divisor" aX):aN P w K mg base CX0 (k + 1) f fd ["top","bottom"] (spD K bI):=by
 refine fnD F cZ hb (by rintro _ _ ⟨_,_,_,rfl,_⟩; rfl) ?_
 rintro _ _ ⟨t,c,q,rfl,h0,h1,hq,rfl⟩ cdv A outer s H E b
 have nd:=cZ.nd
 refine aA 2 nd (x_call b c_common_divisor (ae (aa 0) (ae (aa 1) ag)) ⟨_,_,rfl,rfl⟩) ?_
 have g0:=fg (i:=t) h0
 have gb:=h1.gcd (i:=t) h0
 refine mP (M:=λτ=>τ=[.d (.int t),.d (.int c),.d (.int (if c < 0 then -(Int.gcd t c:Int) else (Int.gcd t c:Int)))]) (aZ (aa 1) af zG) (λh=>?_) (λh=>?_) λτ h=>?_
 · rw [if_pos (of_decide_eq_true h)]
   exact aA 2 nd (uP (aa 2)) (aV rfl)
 · rw [if_neg (of_decide_eq_false h)]
   exact aV rfl
 subst h
 have dv:aB (if c < 0 then -(Int.gcd t c:Int) else (Int.gcd t c:Int)):=by
   split
   · exact gb.neg.aB (by omega) (by decide)
   · exact gb.aB g0 (by decide)
 refine aK (fj (ae (aw (aa 0) (aa 2) (a9 dv)) (ae (aw (aa 1) (aa 2) (a9 dv)) ag))) ?_
 by_cases hc:c < 0
 · have hq':((-t:Int):Rat)=q * ((-c:Int):Rat):=by rw [Rat.intCast_neg,Rat.intCast_neg,hq,Rat.mul_neg]
   obtain ⟨e1,e2⟩:=cO (by omega) hq'
   rw [Int.neg_gcd,Int.gcd_neg] at e1 e2
   rw [if_pos hc,frD,e1,e2,<- aT (-t),<- aT (-c),<- Int.neg_fdiv_neg (-t),<- Int.neg_fdiv_neg (-c),Int.neg_neg,Int.neg_neg]
 · obtain ⟨e1,e2⟩:=cO (by omega) hq
   rw [if_neg hc,frD,e1,e2,aT,aT]
theorem ou (F:Fun K "fraction" qual (top 27) f fd) (hb:∀ x ∈ aj,mg x=none) (c_in_lowest_terms:Cal P w K mg base k "in_lowest_terms" bI) (c_is_whole:Cal P w K mg base k "is_whole" eU):aN P w K mg base CX0 (k + 1) f fd ["top","bottom"] (spD K gK):=by
 refine fnD F pj hb (by rintro _ _ ⟨_,_,_,rfl,_⟩; rfl) ?_
 rintro _ _ ⟨t,c,q,rfl,h0,h1,hq,rfl⟩ cdv A outer s H E b
 refine cu (PW.pt (d8 (bO (bC (x_call b c_is_whole (ae (aa 0) ag) ⟨_,rfl,rfl⟩))) λh=>(df (bO (bC (x_call b c_is_whole (ae (aa 1) ag) ⟨_,rfl,rfl⟩)))))) rfl ?_
 refine cu (aZ (aa 1) af fK) (decide_eq_false h0) ?_
 exact aK (x_call b c_in_lowest_terms (ae (aa 0) (ae (aa 1) ag)) ⟨t,c,q,rfl,h0,h1,hq,rfl⟩) rfl
theorem iQ (F:Fun K "is_short_list" qual (top 34) f fd) (hb:∀ x ∈ aj,mg x=none) (y_MOST:∃ t,mg "MOST" = some (.int 7 t)):aN P w K mg base CX0 (k + 1) f fd ["thing"] (spD K bX):=by
 refine fnD F eO hb (by rintro _ _ ⟨_,rfl,_⟩; rfl) ?_
 rintro _ _ ⟨xs,rfl,rfl⟩ cdv A outer s H E b
 exact aK (fP (eF .list b (aa 0)) λh=>(iu (si af (bh b (ae (aa 0) ag) jr) (vX y_MOST) xq xq).1)) rfl
end
noncomputable def rwQ (r:List Rat):D:=.lst (r.map frD)
noncomputable def tbQ (M:List (List Rat)):D:=.lst (M.map rwQ)
structure Tq (R C:Nat) (M:List (List Rat)):Prop where
 r1:1<=R
 r7:R<=7
 c1:1<=C
 c7:C<=7
 len:M.length=R
 row:∀ r ∈ M,r.length=C
theorem bW {α:Type} {f:α->D} {xs:List α} (d:α):∀ i (h:i < (xs.map f).length),(xs.map f)[i]=f (xs.getD i d):=λi h=>by
 have:i < xs.length:=by simpa using h
 simp [this]
theorem dF {α:Type} {f:α->D} {xs:List α} (d:α) {i:Nat} (h:i < xs.length):atI (xs.map f) (i:Int)=some (f (xs.getD i d)):=aD (by simp [h])
theorem bj {α:Type} {xs:List α} {d:α} {i:Nat} (h:i < xs.length):xs.getD i d ∈ xs:=by simp [h]
theorem Tq.at_ {R C:Nat} {M:List (List Rat)} (h:Tq R C M) {i:Nat} (hi:i < R):(M.getD i []).length=C:=h.row _ (bj (by rw [h.len]; exact hi))
theorem vq (n:Nat) (f:Nat->Bool) (h:∀ i,i < n->f i=true):((List.range n).map f).all id=true:=by
 rw [List.all_map,List.all_eq_true]
 intro i hi
 exact h i (List.mem_range.mp hi)
structure Qs (d v:Nat) (q:Rat):Prop where
 den:Bd d (q.den:Nat)
 val:q.num.natAbs<=2 ^ v * q.den
theorem cN {X:Cx} {xs:List D} {n:Nat} (h:xs.length=n):kJ X (.builtin "len") [.lst xs] (.d (.int n)):=h ▸ jr
theorem gk {α:Type} (f:α->D) (xs:List α) (d:α) {m:Nat} (h:m=xs.length):(List.range m).map (λi=>f (xs.getD i d))=xs.map f:=by
 subst h
 refine List.ext_getElem (by simp) λi h1 h2=>?_
 have:i < xs.length:=by simpa using h2
 simp [this]
theorem tS {m:Int} {n:Nat} (i:Nat) (h:i < (ig m n).length):(ig m n)[i]=.int (m + (i:Nat)):=mI m n i h
noncomputable def kO (ds:List D) (r:Sl):Prop:=∃ q:List Rat,ds=[rwQ q]/\1<=q.length/\q.length<=7/\r=.d (.bl true)
noncomputable def gN (ds:List D) (r:Sl):Prop:=∃ (R C:Nat) (M:List (List Rat)),ds=[tbQ M]/\Tq R C M/\r=.d (.bl true)
noncomputable def cc (ds:List D) (r:Sl):Prop:=∃ (R C:Nat) (M:List (List Rat)),ds=[tbQ M]/\Tq R C M/\r=.d .non
section
variable {P:Program} {w:World} {K:PySem.W.Frag} {mg:Str->Option Value} {base:Heap} {k:Nat} {f:Addr} {fd:FuncData} {qual:Str}
theorem sR (F:Fun K "is_row" qual (top 35) f fd) (hb:∀ x ∈ aj,mg x=none) (c_is_short_list:Cal P w K mg base k "is_short_list" bX) (c_is_fraction:Cal P w K mg base k "is_fraction" cC):aN P w K mg base CX0 (k + 1) f fd ["thing"] (spD K kO):=by
 refine fnD F lz hb (by rintro _ _ ⟨_,rfl,_⟩; rfl) ?_
 rintro _ _ ⟨q,rfl,h1,h7,rfl⟩ cdv A outer s H E b
 refine aK (fP (x_call b c_is_short_list (ae (aa 0) ag) ⟨_,rfl,rfl⟩) λh=>(iu (bh b (ae (bu (eZ (cmp 0 (f:=λ_=>.bl true) b (aY (aa 0)) (bW (f:=frD) (xs:=q) 0) (by rw [List.length_map]; omega) λi hi s0 H0 fp=>(x_call (b.comp s0 H0 _ fp) c_is_fraction (ae (aa 0) ag) ⟨_,rfl,by rw [xQ]⟩)))) ag) (lO b.calm ((List.range (q.map frD).length).map λ_=>true) (by rw [List.map_map]; rfl))))) ?_
 rw [List.length_map,decide_eq_true (by omega),decide_eq_true (by omega),vq _ _ λ_ _=>rfl]
 rfl
theorem oV (F:Fun K "is_table" qual (top 36) f fd) (hb:∀ x ∈ aj,mg x=none) (c_is_short_list:Cal P w K mg base k "is_short_list" bX) (c_is_row:Cal P w K mg base k "is_row" kO):aN P w K mg base CX0 (k + 1) f fd ["thing"] (spD K gN):=by
 refine fnD F jj hb (by rintro _ _ ⟨_,_,_,rfl,_⟩; rfl) ?_
 rintro _ _ ⟨R,C,M,rfl,t,rfl⟩ cdv A outer s H E b
 have hl:(M.map rwQ).length=R:=by rw [List.length_map,t.len]
 have r1:=t.r1
 have r7:=t.r7
 have c1:=t.c1
 have c7:=t.c7
 refine cu (PW.pt (d8 (bO (bC (x_call b c_is_short_list (ae (aa 0) ag) ⟨_,rfl,rfl⟩))) λh=>(df (bO (bC (bh b (ae (bu (eZ (cmp 0 (f:=λ_=>.bl true) b (aY (aa 0)) (bW (f:=rwQ) (xs:=M) []) (by rw [hl]; omega) λi hi s0 H0 fp=>(x_call (b.comp s0 H0 _ fp) c_is_row (ae (aa 0) ag) ⟨_,rfl,?_,?_,rfl⟩)))) ag) (lO b.calm ((List.range (M.map rwQ).length).map λ_=>true) (by rw [List.map_map]; rfl)))))))) ?_ ?_
 · rw [t.at_ (by rw [hl] at hi; exact hi)]; exact c1
 · rw [t.at_ (by rw [hl] at hi; exact hi)]; exact c7
 · rw [hl,decide_eq_true (by omega),decide_eq_true (by omega),vq _ _ λ_ _=>rfl]; rfl
 have e0:atI (M.map rwQ) 0=some (rwQ (M.getD 0 [])):=dF [] (i:=0) (by rw [t.len]; omega)
 refine aK (bh b (ae (bu (eZ (cmp 0 (f:=λ_=>.bl (decide ((C:Int)=(C:Int)))) b (aY (aa 0)) (bW (f:=rwQ) (xs:=M) []) (by rw [hl]; omega) λi hi s0 H0 fp=>(fh (bh (b.comp s0 H0 _ fp) (ae (aa 0) ag) (cN (n:=C) (by rw [List.length_map]; exact t.at_ (by rw [hl] at hi; exact hi)))) (bh (b.comp s0 H0 _ fp) (ae (aL (aa 1) af (aP e0)) ag) (cN (n:=C) (by rw [List.length_map]; exact t.at_ (by omega)))) fK)))) ag) (lO b.calm ((List.range (M.map rwQ).length).map λ_=>decide ((C:Int)=(C:Int))) (by rw [List.map_map]; rfl))) ?_
 rw [vq _ _ λ_ _=>decide_eq_true rfl]
theorem kQ (F:Fun K "look_table" qual (top 37) f fd) (hb:∀ x ∈ aj,mg x=none) (c_is_table:Cal P w K mg base k "is_table" gN):aN P w K mg base CX0 (k + 1) f fd ["thing"] (spD K cc):=by
 refine fnD F gC hb (by rintro _ _ ⟨_,_,_,rfl,_⟩; rfl) ?_
 rintro _ _ ⟨R,C,M,rfl,t,rfl⟩ cdv A outer s H E b
 exact cu (bO (bC (x_call b c_is_table (ae (aa 0) ag) ⟨R,C,M,rfl,t,rfl⟩))) rfl (aV rfl)
end
noncomputable def jc:D->Bool
 | .lst xs=>decide ((1:Int)<=(xs.length:Nat)) && decide (((xs.length:Nat):Int)<=7)
 | _=>false
noncomputable def jd:D->Bool
 | .lst xs=>jc (.lst xs) && (xs.map k9).all id
 | _=>false
noncomputable def k6:D->Nat
 | .lst xs=>xs.length
 | _=>0
noncomputable def sx:D->Bool
 | .lst xs=>jc (.lst xs) && ((xs.map jd).all id && (xs.map λy=>decide (k6 y=k6 (xs.getD 0 .non))).all id)
 | _=>false
theorem pf {xs:List D} (h:jc (.lst xs)=true):1<=xs.length/\xs.length<=7:=by
 have h:(decide ((1:Int)<=(xs.length:Nat)) && decide (((xs.length:Nat):Int)<=7))=true:=h
 rw [Bool.and_eq_true] at h
 exact ⟨by have:=of_decide_eq_true h.1; omega,by have:=of_decide_eq_true h.2; omega⟩
theorem mY (f:D->Bool) (xs:List D):(List.range xs.length).map (λi=>f (xs.getD i .non))=xs.map f:=by
 refine List.ext_getElem (by simp) λi h1 h2=>?_
 have:i < xs.length:=by simpa using h2
 simp [this]
theorem uC:∀ {x:D},jd x=true->∃ ys,x=.lst ys
 | .lst ys,_=>⟨ys,rfl⟩
 | .int _,h=>nomatch h
 | .bl _,h=>nomatch h
 | .str _,h=>nomatch h
 | .non,h=>nomatch h
 | .tup _,h=>nomatch h
noncomputable def bP (ds:List D) (r:Sl):Prop:=∃ x,ds=[x]/\r=.d (.bl (jc x))
noncomputable def jb (ds:List D) (r:Sl):Prop:=∃ x,ds=[x]/\r=.d (.bl (jd x))
noncomputable def fX (ds:List D) (r:Sl):Prop:=∃ x,ds=[x]/\r=.d (.bl (sx x))
section
variable {P:Program} {w:World} {K:PySem.W.Frag} {mg:Str->Option Value} {base:Heap} {k:Nat} {f:Addr} {fd:FuncData} {qual:Str}
theorem hZ (F:Fun K "is_short_list" qual (top 34) f fd) (hb:∀ x ∈ aj,mg x=none) (y_MOST:∃ t,mg "MOST" = some (.int 7 t)):aN P w K mg base CX0 (k + 1) f fd ["thing"] (spD K bP):=by
 refine fnD F eO hb (by rintro _ _ ⟨_,rfl,_⟩; rfl) ?_
 rintro _ _ ⟨x,rfl,rfl⟩ cdv A outer s H E b
 by_cases ht:jy .list x=true
 · obtain ⟨xs,rfl⟩:∃ xs,x=.lst xs:=by cases x <;> first | exact ⟨_,rfl⟩ | cases ht
   exact aK (fP (eF .list b (aa 0)) λh=>(iu (si af (bh b (ae (aa 0) ag) jr) (vX y_MOST) xq xq).1)) rfl
 · have e:jy .list x=false:=by simpa using ht
   have ef:jc x=false:=by cases x <;> first | rfl | cases e
   refine aK (fP (q:=true) (eF .list b (aa 0)) λh=>(by rw [e] at h; cases h)) ?_
   rw [ef,e]; rfl
theorem qv (F:Fun K "is_row" qual (top 35) f fd) (hb:∀ x ∈ aj,mg x=none) (c_is_short_list2:Cal P w K mg base k "is_short_list" bP) (c_is_fraction:Cal P w K mg base k "is_fraction" cC):aN P w K mg base CX0 (k + 1) f fd ["thing"] (spD K jb):=by
 refine fnD F lz hb (by rintro _ _ ⟨_,rfl,_⟩; rfl) ?_
 rintro _ _ ⟨x,rfl,rfl⟩ cdv A outer s H E b
 by_cases ht:jc x=true
 · obtain ⟨xs,rfl⟩:∃ xs,x=.lst xs:=by cases x <;> first | exact ⟨_,rfl⟩ | cases ht
   obtain ⟨l1,l7⟩:=pf ht
   refine aK (fP (x_call b c_is_short_list2 (ae (aa 0) ag) ⟨_,rfl,rfl⟩) λh=>(iu (bh b (ae (bu (eZ (cmp 0 (f:=λl=>.bl (k9 (xs.getD l .non))) b (aY (aa 0)) uo (by omega) λl hl s0 H0 fp=>(x_call (b.comp s0 H0 _ fp) c_is_fraction (ae (aa 0) ag) ⟨_,rfl,rfl⟩)))) ag) (lO b.calm ((List.range xs.length).map λl=>k9 (xs.getD l .non)) (by rw [List.map_map]; rfl))))) ?_
   rw [mY k9 xs]; rfl
 · have e:jc x=false:=by simpa using ht
   have ef:jd x=false:=by
     cases x with
     | lst xs=>show (jc (.lst xs) && _)=false; rw [e]; rfl
     | _=>rfl
   refine aK (fP (q:=true) (x_call b c_is_short_list2 (ae (aa 0) ag) ⟨_,rfl,rfl⟩) λh=>(by rw [e] at h; cases h)) ?_
   rw [ef,e]; rfl
theorem mX (F:Fun K "is_table" qual (top 36) f fd) (hb:∀ x ∈ aj,mg x=none) (c_is_short_list2:Cal P w K mg base k "is_short_list" bP) (c_is_row2:Cal P w K mg base k "is_row" jb):aN P w K mg base CX0 (k + 1) f fd ["thing"] (spD K fX):=by
 refine fnD F jj hb (by rintro _ _ ⟨_,rfl,_⟩; rfl) ?_
 rintro _ _ ⟨x,rfl,rfl⟩ cdv A outer s H E b
 by_cases ht:jc x=true
 · obtain ⟨xs,rfl⟩:∃ xs,x=.lst xs:=by cases x <;> first | exact ⟨_,rfl⟩ | cases ht
   obtain ⟨l1,l7⟩:=pf ht
   refine cv (PW.pt (d8 (bO (bC (x_call b c_is_short_list2 (ae (aa 0) ag) ⟨_,rfl,rfl⟩))) λh=>(df (bO (bC (bh b (ae (bu (eZ (cmp 0 (f:=λl=>.bl (jd (xs.getD l .non))) b (aY (aa 0)) uo (by omega) λl hl s0 H0 fp=>(x_call (b.comp s0 H0 _ fp) c_is_row2 (ae (aa 0) ag) ⟨_,rfl,rfl⟩)))) ag) (lO b.calm ((List.range xs.length).map λl=>jd (xs.getD l .non)) (by rw [List.map_map]; rfl)))))))) (λz=>?_) λz=>?_
   · rw [ht,mY jd xs] at z
     have z:((xs.map jd).all id)=false:=by simpa using z
     refine aK kW ?_
     show Sl.d (.bl false)=Sl.d (.bl (jc (.lst xs) && ((xs.map jd).all id && _)))
     rw [z,Bool.false_and,Bool.and_false]
   · rw [ht,mY jd xs] at z
     have z:((xs.map jd).all id)=true:=by simpa using z
     have rw_:∀ l,l < xs.length->∃ ys,xs.getD l .non=.lst ys:=λl hl=>by
       refine uC ?_
       rw [List.all_eq_true] at z
       have:=z (jd (xs.getD l .non)) (List.mem_map.mpr ⟨_,by simp [hl],rfl⟩)
       exact this
     obtain ⟨y0,e0⟩:=rw_ 0 (by omega)
     have a0:atI xs 0=some (.lst y0):=by
       have:=aD (xs:=xs) (i:=0) (x:=xs.getD 0 .non) (by simp [show 0 < xs.length by omega])
       rw [e0] at this; exact this
     refine aK (bh b (ae (bu (eZ (cmp 0 (f:=λl=>.bl (decide (k6 (xs.getD l .non)=k6 (xs.getD 0 .non)))) b (aY (aa 0)) uo (by omega) λl hl s0 H0 fp=>?_))) ag) (lO b.calm ((List.range xs.length).map λl=>decide (k6 (xs.getD l .non)=k6 (xs.getD 0 .non))) (by rw [List.map_map]; rfl))) ?_
     · obtain ⟨yl,el⟩:=rw_ l hl
       have en:(.bl (decide (k6 (xs.getD l .non)=k6 (xs.getD 0 .non))):D)=.bl (decide ((yl.length:Int)=(y0.length:Nat))):=by
         rw [el,e0]
         show D.bl (decide (yl.length=y0.length))=_
         congr 1
         exact decide_eq_decide.mpr Int.ofNat_inj.symm
       rw [en,el]
       exact fh (bh (b.comp s0 H0 _ fp) (ae (aa 0) ag) jr) (bh (b.comp s0 H0 _ fp) (ae (aL (aa 1) af (aP a0)) ag) jr) fK
     · rw [mY (λy=>decide (k6 y=k6 (xs.getD 0 .non))) xs]
       show _=Sl.d (.bl (jc (.lst xs) && ((xs.map jd).all id && _)))
       rw [z,ht,Bool.true_and,Bool.true_and]
 · have e:jc x=false:=by simpa using ht
   have ef:sx x=false:=by
     cases x with
     | lst xs=>show (jc (.lst xs) && _)=false; rw [e]; rfl
     | _=>rfl
   refine cv (PW.pt (d8 (q:=true) (bO (bC (x_call b c_is_short_list2 (ae (aa 0) ag) ⟨_,rfl,rfl⟩))) λh=>(by rw [e] at h; cases h))) (λh=>?_) λh=>?_
   · refine aK kW ?_
     rw [ef]
   · rw [e] at h; cases h
end
end K59
namespace Hy
open PySem PySem.Spec PyProof.Rows L2
open Ev (D Den aq ak)
noncomputable def exX (cl:Nat->Addr) (c:Nat):Ex where
 p:=λ_ _ o _=>∃ ob,o=Hx.sN ob/\Hx.vm ob (cl c)
 mono:=λ_ h=>h
 ext:=λ⟨ob,h,_⟩=>.inr (.inl ⟨ob,_,h⟩)
section
variable {X:Cx} {C:Bool} {τ:List Sl} {x y z:D} {a b e c0 tg it elt:Expr} {es ifs:List Expr} {pos p q q':Pos} {k c:Nat} {cl:Nat->Addr} {xs:List D} {scope:Scope}
theorem uJ {b:Bool} {v:V} {u:Value} (O:Hx.dY X.K (cl c)) (hv:∀ u',RelV v u'->u'=u) (e:PySem.W.kitOne X.K (.ref (cl c)) u=some b) :
   fF X (.builtin "isinstance") (λxs H Q=>∃ a o x,xs=[.ref a,v]/\H a=some (.frz o x)/\Hx.vm o (cl c)/\Q (.bl b) H):=by
 rintro pins s σ H vs us Q I rv ⟨a,o,x,rfl,e2,⟨⟨e3,e4⟩,ws,e5,e6⟩,q⟩
 obtain ⟨u1,u2,rfl,r1,r2⟩:=rv.two
 cases r1
 have r2:=hv _ r2
 subst r2
 have g:=(I.hok a _ e2).1
 refine PySem.W.kia_one (Hx.vV O) I.kIn ⟨o,g,e3,?_,?_⟩ e (λz=>nomatch z) λtk=>⟨.bl b,H,I.kept (t':=tk) (λ_ _ z=>z),rfl,q⟩
 · unfold PySem.W.notCls; rw [e5]
 · rw [e4]; trivial
theorem cf (i:Nat) {n t:Str} {C0:Addr} {bb:Bool} (hm:X.mg t=some (.ref C0)) (O:Hx.dY X.K (cl c)) (hk:PySem.W.kitOne X.K (.ref (cl c)) (.ref C0)=some bb) (hbi:X.mg "isinstance" = none) (hi:τ[i]?=some (.x (exX cl c)):=by rfl) (hN:X.N[i]?=some n:=by rfl) (hg:Gl X "isinstance":=by rfl) (hgt:Gl X t:=by rfl)
   (hv:Vis X.env.scope n:=by first | exact Or.inl rfl | exact Or.inr (Or.inl rfl) | exact Or.inr (Or.inr rfl)) (h1:(n == ("__debug__" : Str))=false:=by decide) (h2:(n == ("__classdict__" : Str))=false:=by decide) (h3:(t == ("__debug__" : Str))=false:=by decide)
   (he:starEach [.Name n q,.Name t q'] X.env=(false,eval (.Name n q) X.env) :: starEach [.Name t q'] X.env:=by rfl) (hpl:(backTo pos (starEach [.Name t q'] X.env)).any (·.1)=false:=by rfl) :
   PE X (.Call (.Name "isinstance" p) [.Name n q,.Name t q'] [] pos) (dE X.K C τ (.d (.bl bb))):=by
 refine peW (fI (uJ (v:=.ref C0) (u:=.ref C0) O (λ_ z=>z) hk) hg hbi (by decide +kernel) (bF (bT hN hv h1 h2) (bF (nF (v:=.ref C0) hgt hm rfl h3) dC rfl) he) (by decide) (by decide) he hpl) λσ H Q q=>?_
 obtain ⟨A,H₀,B,S,k⟩:=fU q
 obtain ⟨d,o,h1,h2,h3,ob,rfl,ho⟩:=S.sl i _ hi
 exact ⟨_,slot_of h2,d,ob,_,rfl,h3,ho,k _ H (ai.refl _) .bl⟩
theorem Cr (i:Nat) {n t:Str} {T:String} {bb:Bool} (hm:X.mg t=none) (hb:bootBuiltins t=some (.type T)) (O:Hx.dY X.K (cl c)) (hk:PySem.W.kitOne X.K (.ref (cl c)) (.type T)=some bb) (hbi:X.mg "isinstance" = none) (hi:τ[i]?=some (.x (exX cl c)):=by rfl) (hN:X.N[i]?=some n:=by rfl) (hg:Gl X "isinstance":=by rfl) (hgt:Gl X t:=by rfl)
   (hv:Vis X.env.scope n:=by first | exact Or.inl rfl | exact Or.inr (Or.inl rfl) | exact Or.inr (Or.inr rfl)) (h1:(n == ("__debug__" : Str))=false:=by decide) (h2:(n == ("__classdict__" : Str))=false:=by decide) (h3:(t == ("__debug__" : Str))=false:=by decide) (h4:t ≠ "__name__":=by decide)
   (he:starEach [.Name n q,.Name t q'] X.env=(false,eval (.Name n q) X.env) :: starEach [.Name t q'] X.env:=by rfl) (hpl:(backTo pos (starEach [.Name t q'] X.env)).any (·.1)=false:=by rfl) :
   PE X (.Call (.Name "isinstance" p) [.Name n q,.Name t q'] [] pos) (dE X.K C τ (.d (.bl bb))):=by
 refine peW (fI (uJ (v:=.ty T) (u:=.type T) O (λ_ z=>z) hk) hg hbi (by decide +kernel) (bF (bT hN hv h1 h2) (bF (rJ (v:=.ty T) hgt hm hb rfl h4 h3) dC rfl) he) (by decide) (by decide) he hpl) λσ H Q q=>?_
 obtain ⟨A,H₀,B,S,k⟩:=fU q
 obtain ⟨d,o,h1,h2,h3,ob,rfl,ho⟩:=S.sl i _ hi
 exact ⟨_,slot_of h2,d,ob,_,rfl,h3,ho,k _ H (ai.refl _) .bl⟩
theorem zB {n:Int} (hc:Ck true X) (hm:X.mg "range" = none) (h:PE X a (dE X.K false τ (.d (.int n)))) (h1:-(2 ^ 62)<=n) (h2:n < 2 ^ 62) (hg:Gl X "range":=by rfl) (hs:starEach [a] X.env=[(false,eval a X.env)]:=by rfl):PI X tg (.Call (.Name "range" p) [a] [] pos) (dI X.K τ (ig 0 n.toNat)):=
 piW (lU hc hg hm (ae h ag hs) hs) λσ H R ⟨A,H₀,B,S,k⟩=>eg S λvs H1 e1 d1=>by
   cases d1 with
   | cons d r=>
     cases r
     cases d
     exact ⟨n,rfl,h1,h2,k _ H1 e1 (ql 0 _)⟩
theorem Ac (j:Nat) {n:Str} {g f:Nat->D} {t:Nat->Bool} (hi:PI X (.Name n p) it (dI X.K τ xs)) (hx:∀ i (h:i < xs.length),xs[i]=g i) (hl:xs.length < 1000000)
   (ht:∀ i,i < xs.length->∀ s H fp,PT (cpX X s H scope fp) c0 (dT X.K ((bE τ (bCp X.N scope)++[Sl.un]).set j (.d (g i))) (t i)))
   (he:∀ i,i < xs.length->t i=true->∀ s H fp,PE (cpX X s H scope fp) elt (dE X.K true ((bE τ (bCp X.N scope)++[Sl.un]).set j (.d (g i))) (.d (f i))))
   (hc:bOk X.env.scope scope=true:=by kernel_rfl) (hu:(bE τ (bCp X.N scope)++[Sl.un])[j]?=some .un:=by rfl) (hN:(bNm scope++[("#" : Str)])[j]?=some n:=by rfl) (hv:∀ s H fp,Loc (cpX X s H scope fp).env.scope n:=by intro _ _ _; first | exact .inl rfl | exact .inr rfl)
   (hf:∀ s H fp,(cpX X s H scope fp).fn n=true\/(cpX X s H scope fp).env.scope.names.lookup n=some .local:=by intro _ _ _; first | exact .inr rfl | exact .inl rfl) (hs:∀ x,foldedSetIterable it X.env x=pure x:=by intro _; rfl) :
   Cmp X elt (.Name n p) it [c0] scope τ (((List.range xs.length).filter t).map f):=by
 refine pW (T:=λi=>(bE τ (bCp X.N scope)++[Sl.un]).set j (.d (g i))) (t:=t) (f:=f) (elt:=elt) (ifs:=[c0]) hc hi (λi=>⟨List.length_set,λl x h=>?_⟩) (λi h s H fp=>?_) (λi h s H fp=>wX (ht i h s H fp)) he hl hs
 · rw [List.getElem?_set_ne (λz=>by rw [<- z,hu] at h; cases h)]
   exact h
 · rw [hx i h]
   exact wL j (gq hc).2 hN (hv s H fp) (hf s H fp)
theorem Ag (hm:X.mg "len" = none) (h:PE X a (dE X.K C τ (.d (.lst xs)))) (hg:Gl X "len":=by rfl) (he:starEach [a] X.env=(false,eval a X.env) :: starEach [] X.env:=by rfl) (hpl:(backTo pos (starEach [] X.env)).any (·.1)=false:=by rfl):PE X (.Call (.Name "len" p) [a] [] pos) (dE X.K C τ (.d (.int xs.length))):=by
 obtain ⟨r,h1,h2⟩:=jr (X:=X) (xs:=xs)
 exact peW (fI h1 hg hm (by decide +kernel) (ae h ag he) (by decide) (by decide) he hpl) (pX h2)
end
section
variable {P:Program} {w:World} {K:PySem.W.Frag} {mg:Str->Option Value} {base:Heap} {cl:Nat->Addr}
noncomputable abbrev Xw (P:Program) (w:World) (K:PySem.W.Frag) (mg:Str->Option Value) (base:Heap) (N:List Str) (qual:Str) (st:Stmt) (f:Addr) (cdv:Value) (A:Around) (outer:List Env) (s:Shared) (H:Hp):Cx:=({ kK CX0 P w K mg base N qual (ah st) f cdv A outer s H E0 with calm:=false }:Cx).nox
theorem fnW {qual p0:Str} {st:Stmt} {f:Addr} {fd:FuncData} {N:List Str} {k c:Nat} (F:Fun K "_law_word" qual st f fd) (S:ax N [p0] (ah st)) (hbind:Binds K fd [p0] [])
   (body:∀ cdv A outer s H,Ck true (Xw P w K mg base N qual st f cdv A outer s H)->PSs (Xw P w K mg base N qual st f cdv A outer s H) (bK st) (dS K (.x (exX cl c) :: List.replicate (N.length - 1) .un) { nx:=λ_=>False,rt:=λr=>r=.d (.str (wordOf c)) })):eQ P w K mg base cl (k + 1) f c:=by
 intro A outer s H a o Q hh hH hO hr e0 q
 obtain ⟨oc,od,dV,kV,doc,pm,an,cdv,ct,osl,rfl,lk,hcd⟩:=F.ex
 have KX:K.In s.heap:=e0.mod.kin.keeps λb o e=>(e0.bs b o e).1
 have lim:s.heap.NoLimit:=e0.mod.nolimit.keeps λb o e=>(e0.bs b o e).1
 have hpl:1<=N.length:=by
   have:=congrArg List.length S.pre
   rw [List.length_take] at this
   exact Nat.le_trans (Nat.le_of_eq this.symm) (Nat.min_le_right _ _)
 refine codeAny_call_function (by have:=hr.dp; omega) (KX _ _ lk) rfl S.co S.gen rfl (PySem.W.codeRec_of KX hcd) (hbind s [.ref a] KX rfl _ _ _ _ ?_)
 refine wpAny_newFunctionEnv_cells S.kind (λ⟨n,v⟩ hy=>?_) λenv he s1 x=>?_
 · rcases S.par n (List.of_mem_zip hy).1 with z | z
   · exact .inl z
   · exact .inr ⟨z,PySem.W.cellsFrom_some _ _ _ (.inl z)⟩
 subst he
 refine ⟨lim.keeps x.toInCall.keep,codeAny_func ?_⟩
 have I:Inv { kK CX0 P w K mg base N qual (ah st) f cdv A outer s H E0 with calm:=false } [] (start N [.ref a]) H s1:=lD (cm:=false) S (λz=>nomatch z) e0 rfl (.cons rfl .nil) x
 have ck:Ck true (Xw P w K mg base N qual st f cdv A outer s H):=.inr ⟨rfl,a,o,_,hO.2.choose,hh,hH,hO.2.choose_spec.1,hO.2.choose_spec.2⟩
 have ow:∀ b,own (λ_=>False) (λi=>if i=0 then [a] else []) b ↔ b=a:=λb=>by
   refine ⟨λz=>z.elim False.elim λ⟨i,z⟩=>?_,λz=>.inr ⟨0,by simp [z]⟩⟩
   by_cases e:i=0
   · simp only [if_pos e] at z; exact List.mem_singleton.mp z
   · simp only [if_neg e] at z; cases z
 have hB:∀ i b,b ∈ (if i=0 then [a] else []:List Addr)->i=0/\b=a:=λi b z=>by
   by_cases e:i=0
   · rw [if_pos e] at z; exact ⟨e,List.mem_singleton.mp z⟩
   · rw [if_neg e] at z; cases z
 refine wpAny_mono (body cdv A outer s H ck [] s1 _ H { nx:=λ_ _=>False,rt:=λv H'=>ai (Hy.hd H (·=a)) H'/\v=.str (wordOf c) } (I.je _) ⟨λ_=>False,Hy.hd H (·=a),λi=>if i=0 then [a] else [],⟨aW,?_,λi s hi=>?_,λi b z=>?_,λi j b z1 z2=>((hB i b z1).1).trans ((hB j b z2).1).symm,λb z=>z.elim,λi b z=>⟨Hx.sN o,by rw [(hB i b z).2]; exact hH⟩⟩,λ_ _ _ _ z=>z.elim,λ_ _ _ _ z=>z.elim,λ_ _ _ _ z=>z.elim,λv H' bs s h e hf z=>?_,λ_ _=>trivial⟩) (λfl s' hs=>?_) λe s' hs=>hs.elim
 · unfold L2.start
   simp
 · match i,hi with
   | 0,hi=>
     cases hi
     exact ⟨a,_,rfl,rfl,hH,o,rfl,hO⟩
   | i + 1,hi=>
     rw [List.getElem?_cons_succ,List.getElem?_replicate] at hi
     split at hi
     · cases hi; rfl
     · cases hi
 · rw [(hB i b z).2]
   unfold Hy.hd
   rw [if_pos rfl]
 · obtain rfl:=(h:s=.d (.str (wordOf c)))
   obtain ⟨_,u,e1,d⟩:=z
   cases e1
   cases d
   exact ⟨e,rfl⟩
 · cases fl with
   | ret u=>
     obtain ⟨v,σ',H',J,rv,z1,rfl⟩:=hs
     refine ⟨_,H',J.os,J.bare,J.base,J.hok,rv,q H' λb ob hb=>?_⟩
     by_cases e:b=a
     · subst e
       rw [hH] at hb
       cases hb
       exact J.base.frzs b _ _ hH
     · exact z1 b ob (ao.mpr ⟨e,hb⟩)
   | next=>obtain ⟨_,_,_,z⟩:=hs; exact z.elim
   | brk=>obtain ⟨_,_,_,z⟩:=hs; exact z.elim
   | cont=>obtain ⟨_,_,_,z⟩:=hs; exact z.elim
end
end Hy
namespace Hy
open PySem PySem.Spec PyProof.Rows L2
open Ev (D Den aq cE eh)
section
variable {X:Cx} {C:Bool} {τ:List Sl} {a e tg it elt:Expr} {es ifs:List Expr} {pos p:Pos} {Et:Hp->Prop} {scope:Scope}
end
end Hy
namespace K59
open PySem PySem.Spec PyProof.Rows L2 Hy
open Ev (D Den aq aC aB)
structure Cls (K:PySem.W.Frag) (mg:Str->Option Value) (cl:Nat->Addr) (cs:List Nat):Prop where
 lt:∀ c ∈ cs,c < 19
 ex:∃ S,mg "SmoothError" = some (.ref S)/\∀ c ∈ cs,Hx.zX K (cl c) S/\PySem.W.exmOne K (.ref (cl c)) (.ref S)=some true
 nm:∀ c,c < 19->mg (wordOf c)=some (.ref (cl c))
 kit:∀ c ∈ cs,∀ i,i < 19->PySem.W.kitOne K (.ref (cl c)) (.ref (cl i))=some (decide (c=i))
 val:∀ c ∈ cs,PySem.W.kitOne K (.ref (cl c)) (.type "ValueError")=some true
 vn:mg "ValueError" = none
theorem A4 {c:Nat} (h:c < 19):((List.range 19).filter λi=>decide (c=i)).map (λi=>D.str (wordOf i))=[.str (wordOf c)]:=by
 rcases (by omega:c=0\/c=1\/c=2\/c=3\/c=4\/c=5\/c=6\/c=7\/c=8\/c=9\/c=10\/c=11\/c=12\/c=13\/c=14\/c=15\/c=16\/c=17\/c=18) with rfl | rfl | rfl | rfl | rfl | rfl | rfl | rfl | rfl | rfl | rfl | rfl | rfl | rfl | rfl | rfl | rfl | rfl | rfl <;> rfl
noncomputable def nmD (c:Nat):List D:=[D.bl (decide (c=0)),D.bl (decide (c=1)),D.bl (decide (c=2)),D.bl (decide (c=3)),D.bl (decide (c=4)),D.bl (decide (c=5)),D.bl (decide (c=6)),D.bl (decide (c=7)),D.bl (decide (c=8)),D.bl (decide (c=9)),D.bl (decide (c=10)),D.bl (decide (c=11)),D.bl (decide (c=12)),D.bl (decide (c=13)),D.bl (decide (c=14)),D.bl (decide (c=15)),D.bl (decide (c=16)),D.bl (decide (c=17)),D.bl (decide (c=18))]
theorem DN {c i:Nat} (h:i < 19):(nmD c)[i]?=some (D.bl (decide (c=i))):=by
 rcases (by omega:i=0\/i=1\/i=2\/i=3\/i=4\/i=5\/i=6\/i=7\/i=8\/i=9\/i=10\/i=11\/i=12\/i=13\/i=14\/i=15\/i=16\/i=17\/i=18) with rfl | rfl | rfl | rfl | rfl | rfl | rfl | rfl | rfl | rfl | rfl | rfl | rfl | rfl | rfl | rfl | rfl | rfl | rfl <;> rfl
noncomputable def wdD:List D:=[D.str "NoFraction",D.str "NoTable",D.str "NoChoice",D.str "NoSquare",D.str "NoFit",D.str "NoUndoing",D.str "NoLadder",D.str "TooMany",D.str "NoPaper",D.str "NoRow",D.str "NoStairs",D.str "NoNumber",D.str "NoCorner",D.str "NoName",D.str "NoStep",D.str "NoWeight",D.str "NoDeed",D.str "NoText",D.str "NoWord"]
theorem CO {i:Nat} (h:i < 19):wdD[i]?=some (D.str (wordOf i)):=by
 rcases (by omega:i=0\/i=1\/i=2\/i=3\/i=4\/i=5\/i=6\/i=7\/i=8\/i=9\/i=10\/i=11\/i=12\/i=13\/i=14\/i=15\/i=16\/i=17\/i=18) with rfl | rfl | rfl | rfl | rfl | rfl | rfl | rfl | rfl | rfl | rfl | rfl | rfl | rfl | rfl | rfl | rfl | rfl | rfl <;> rfl
section
variable {P:Program} {w:World} {K:PySem.W.Frag} {mg:Str->Option Value} {base:Heap} {k:Nat} {f:Addr} {fd:FuncData} {qual:Str}
set_option maxHeartbeats 2000000 in
theorem sk {cl:Nat->Addr} {cs:List Nat} {c:Nat} (F:Fun K "_law_word" qual (top 66) f fd) (hb:∀ x ∈ aj,mg x=none) (hbind:Binds K fd ["_law_e"] []) (Z:Cls K mg cl cs) (hc:c ∈ cs):eQ P w K mg base cl (k + 1) f c:=by
 refine fnW F ly hbind λcdv A outer s H ck=>?_
 have nd:=ly.nd
 have lt:=Z.lt c hc
 obtain ⟨S,hS,hx⟩:=Z.ex
 have O:Hx.dY K (cl c):=(hx c hc).1.at_
 have hbi:mg "isinstance" = none:=hb _ (by decide)
 have m0:mg "NoFraction" = some (.ref (cl 0)):=Z.nm 0 (by decide)
 have m1:mg "NoTable" = some (.ref (cl 1)):=Z.nm 1 (by decide)
 have m2:mg "NoChoice" = some (.ref (cl 2)):=Z.nm 2 (by decide)
 have m3:mg "NoSquare" = some (.ref (cl 3)):=Z.nm 3 (by decide)
 have m4:mg "NoFit" = some (.ref (cl 4)):=Z.nm 4 (by decide)
 have m5:mg "NoUndoing" = some (.ref (cl 5)):=Z.nm 5 (by decide)
 have m6:mg "NoLadder" = some (.ref (cl 6)):=Z.nm 6 (by decide)
 have m7:mg "TooMany" = some (.ref (cl 7)):=Z.nm 7 (by decide)
 have m8:mg "NoPaper" = some (.ref (cl 8)):=Z.nm 8 (by decide)
 have m9:mg "NoRow" = some (.ref (cl 9)):=Z.nm 9 (by decide)
 have m10:mg "NoStairs" = some (.ref (cl 10)):=Z.nm 10 (by decide)
 have m11:mg "NoNumber" = some (.ref (cl 11)):=Z.nm 11 (by decide)
 have m12:mg "NoCorner" = some (.ref (cl 12)):=Z.nm 12 (by decide)
 have m13:mg "NoName" = some (.ref (cl 13)):=Z.nm 13 (by decide)
 have m14:mg "NoStep" = some (.ref (cl 14)):=Z.nm 14 (by decide)
 have m15:mg "NoWeight" = some (.ref (cl 15)):=Z.nm 15 (by decide)
 have m16:mg "NoDeed" = some (.ref (cl 16)):=Z.nm 16 (by decide)
 have m17:mg "NoText" = some (.ref (cl 17)):=Z.nm 17 (by decide)
 have m18:mg "NoWord" = some (.ref (cl 18)):=Z.nm 18 (by decide)
 have kt:=Z.kit c hc
 refine aA 1 nd (cw (ae (cf 0 m0 O (kt 0 (by decide)) hbi) (ae (cf 0 m1 O (kt 1 (by decide)) hbi) (ae (cf 0 m2 O (kt 2 (by decide)) hbi) (ae (cf 0 m3 O (kt 3 (by decide)) hbi) ag))))) (ny 1 ?_)
 refine aA 1 nd (ot (aa 1) (bu (cw (ae (cf 0 m4 O (kt 4 (by decide)) hbi) (ae (cf 0 m5 O (kt 5 (by decide)) hbi) (ae (cf 0 m6 O (kt 6 (by decide)) hbi) (ae (cf 0 m7 O (kt 7 (by decide)) hbi) ag)))))) (by show (4:Nat) + 4 < 1000000; decide)) (ny 1 ?_)
 refine aA 1 nd (ot (aa 1) (bu (cw (ae (cf 0 m8 O (kt 8 (by decide)) hbi) (ae (cf 0 m9 O (kt 9 (by decide)) hbi) (ae (cf 0 m10 O (kt 10 (by decide)) hbi) (ae (cf 0 m11 O (kt 11 (by decide)) hbi) ag)))))) (by show (8:Nat) + 4 < 1000000; decide)) (ny 1 ?_)
 refine aA 1 nd (ot (aa 1) (bu (cw (ae (cf 0 m12 O (kt 12 (by decide)) hbi) (ae (cf 0 m13 O (kt 13 (by decide)) hbi) (ae (cf 0 m14 O (kt 14 (by decide)) hbi) (ae (cf 0 m15 O (kt 15 (by decide)) hbi) ag)))))) (by show (12:Nat) + 4 < 1000000; decide)) (ny 1 ?_)
 refine aA 1 nd (ot (aa 1) (bu (cw (ae (cf 0 m16 O (kt 16 (by decide)) hbi) (ae (cf 0 m17 O (kt 17 (by decide)) hbi) (ae (cf 0 m18 O (kt 18 (by decide)) hbi) ag))))) (by show (16:Nat) + 3 < 1000000; decide)) (ny 1 ?_)
 show PSs _ _ (dS K [.x (exX cl c),.d (.lst (nmD c)),.un,.un] _)
 refine aA 2 nd (cw (ae bH (ae bH (ae bH (ae bH (ae bH (ae bH (ae bH (ae bH (ae bH ag)))))))))) (ny 2 ?_)
 refine aA 2 nd (ot (aa 2) (bu (cw (ae bH (ae bH (ae bH (ae bH (ae bH (ae bH (ae bH (ae bH (ae bH ag))))))))))) (by decide)) ?_
 refine rh 2 bH ?_ (ny 2 ?_)
 · show (18:Nat) < 1000000
   decide
 show PSs _ _ (dS K [.x (exX cl c),.d (.lst (nmD c)),.d (.lst wdD),.un] _)
 refine pU 3 nd (s:=.d (.lst [.str (wordOf c)])) (Ac 0 (t:=λi=>decide (c=i)) (f:=λi=>.str (wordOf i)) (zB ck (hb _ (by decide)) af (by decide) (by decide)) fo (by rw [aF]; decide) (λi hi s0 H0 fp=>bC (aL (aa 1) (aa 0) (aP (aD (DN (by rw [aF] at hi; exact hi)))))) λi hi _ s0 H0 fp=>aL (aa 2) (aa 0) (aP (aD (CO (by rw [aF] at hi; exact hi))))) (.inr ?_) ?_
 · rw [aF]
   exact congrArg (λl=>Sl.d (D.lst l)) (A4 lt).symm
 show PSs _ _ (dS K [.x (exX cl c),.d (.lst (nmD c)),.d (.lst wdD),.d (.lst [.str (wordOf c)])] _)
 refine cu (PW.pt (d8 (aZ (Ag (hb _ (by decide)) (aa 3)) af jM) λh=>(df (bO (bC (Cr 0 Z.vn (by decide +kernel) O (Z.val c hc) hbi)))))) rfl ?_
 exact aK (aL (aa 3) af (aP (aD (i:=0) rfl))) rfl
end
noncomputable def j1 (ds:List D) (c:Nat):Prop:=∃ x,ds=[x]/\sx x=false/\c=1
section
variable {P:Program} {w:World} {K:PySem.W.Frag} {mg:Str->Option Value} {base:Heap} {k:Nat} {f:Addr} {fd:FuncData} {qual:Str}
theorem kT {cl:Nat->Addr} {cs:List Nat} (F:Fun K "look_table" qual (top 37) f fd) (hb:∀ x ∈ aj,mg x=none) (Z:Cls K mg cl cs) (h1:1 ∈ cs) (c_is_table2:Cal P w K mg base k "is_table" fX):aN P w K mg base (Hx.CXe P w cl) (k + 1) f fd ["thing"] (spX K cl j1):=by
 obtain ⟨S,hS,hx⟩:=Z.ex
 refine fnX F gC hb (by rintro _ _ ⟨_,rfl,_⟩; rfl) ?_
 rintro _ _ ⟨x,rfl,h2,rfl⟩ cdv A outer s H E hr b ps lv
 refine cv (PT.nox (bO (bC (x_call b c_is_table2 (ae (aa 0) ag) ⟨x,rfl,rfl⟩)))) (λ_=>rT (lv 1) (Z.nm 1 (by decide)) (hx 1 h1).1 (ae bH ag)) λh=>?_
 rw [h2] at h; cases h
end
noncomputable def dn (c:Nat->Nat->Rat):Nat->Nat->Rat:=λi j=>c (i + 1) (j + 1) / c (i - j) (j - i)
noncomputable def nv:Nat->(Nat->Nat->Rat)->Nat->Nat->Rat
 | 0,c=>c
 | n + 1,c=>λi j=>c i 0 * c 0 j * (1 / c 0 0 + ay (λk=>ay (λl=>nv n (dn c) k l / (c (k + 1) 0 * c 0 (l + 1))) j) i)
theorem zH {x y:Rat} (h:x ≠ 0) (g:y ≠ 0):x / y ≠ 0:=λz=>by
 have e:x / y * y=x:=Rat.div_mul_cancel g
 rw [z,Rat.zero_mul] at e
 exact h e.symm
theorem gB {c:Nat->Nat->Rat} (h:∀ i j,c i j ≠ 0):∀ i j,dn c i j ≠ 0:=λi j=>zH (h _ _) (h _ _)
theorem yS:∀ (n:Nat) (c:Nat->Nat->Rat) (i j:Nat),nv n (λx y=>c y x) i j=nv n c j i
 | 0,_,_,_=>rfl
 | n + 1,c,i,j=>by
   have ih:=yS n (dn c)
   have e:dn (λx y=>c y x)=λx y=>dn c y x:=by funext x y; rfl
   show c 0 i * c j 0 * _=c j 0 * c 0 i * _
   rw [e,Rat.mul_comm (c 0 i),gp]
   congr 2
   refine au λk _=>au λl _=>?_
   rw [ih]
   show _ / (c 0 (l + 1) * c (k + 1) 0)=_
   rw [Rat.mul_comm (c 0 (l + 1))]
theorem pB:∀ (n:Nat) (M:Nat->Nat->Rat),(∀ i < n,∀ j < i,M i j=0)->(∀ i < n,M i i=1)->det n M=1
 | 0,_,_,_=>rfl
 | n + 1,M,h,d=>by
   rw [cV 1 n M λi h1 h2 j hj=>h i (by omega) j (by omega),pB n M (λi hi=>h i (by omega)) λi hi=>d i (by omega),gx]
   show 1 * M n n=1
   rw [d n (by omega),Rat.one_mul]
theorem zF (n:Nat) (M:Nat->Nat->Rat) (h:∀ i < n,∀ j < n,i < j->M i j=0) (d:∀ i < n,M i i=1):det n M=1:=by
 rw [<- kC]
 exact pB n _ (λi hi j hj=>h j (by omega) i hi hj) d
noncomputable def nvZ (n:Nat) (c:Nat->Nat->Rat) (i j:Nat):Rat:=c 0 j * ay (λl=>nv n (dn c) i l / c 0 (l + 1)) j
theorem tM {n:Nat} {c:Nat->Nat->Rat} (h:∀ i j,c i j ≠ 0) (i:Nat):nv (n + 1) c i 0=c i 0:=by
 show c i 0 * c 0 0 * (1 / c 0 0 + ay (λk=>0) i)=_
 rw [gm,Rat.add_zero,Rat.mul_assoc,Rat.mul_comm (c 0 0),Rat.div_mul_cancel (h 0 0),Rat.mul_one]
theorem xO {n:Nat} {c:Nat->Nat->Rat} (h:∀ i j,c i j ≠ 0) (i j:Nat):nv (n + 1) c (i + 1) j=c (i + 1) 0 / c i 0 * nv (n + 1) c i j + nvZ n c i j:=by
 show c (i + 1) 0 * c 0 j * (1 / c 0 0 + ay (λk=>ay (λl=>nv n (dn c) k l / (c (k + 1) 0 * c 0 (l + 1))) j) (i + 1))=c (i + 1) 0 / c i 0 * (c i 0 * c 0 j * (1 / c 0 0 + ay (λk=>ay (λl=>nv n (dn c) k l / (c (k + 1) 0 * c 0 (l + 1))) j) i)) + nvZ n c i j
 unfold nvZ
 have e:ay (λl=>nv n (dn c) i l / c 0 (l + 1)) j=c (i + 1) 0 * ay (λl=>nv n (dn c) i l / (c (i + 1) 0 * c 0 (l + 1))) j:=by
   rw [bf]
   refine au λl _=>?_
   have h1:=h (i + 1) 0
   have h2:=h 0 (l + 1)
   grind
 rw [e,ay]
 generalize ay (λk=>ay (λl=>nv n (dn c) k l / (c (k + 1) 0 * c 0 (l + 1))) j) i=S
 generalize ay (λl=>nv n (dn c) i l / (c (i + 1) 0 * c 0 (l + 1))) j=T
 have h1:=h i 0
 grind
noncomputable def nvW (n:Nat) (c:Nat->Nat->Rat) (a:Nat):Nat->Nat->Rat:=λk j=>if k=0 then nv (n + 1) c a j else nvZ n c (a + k - 1) j
theorem rY {n:Nat} {c:Nat->Nat->Rat} (h:∀ i j,c i j ≠ 0) (a j:Nat):∀ r,nv (n + 1) c (a + r) j=ay (λk=>c (a + r) 0 / c (a + k) 0 * nvW n c a k j) (r + 1)
 | 0=>by
   have h1:=h a 0
   show nv (n + 1) c a j=0 + c a 0 / c a 0 * nv (n + 1) c a j
   grind
 | r + 1=>by
   have ih:=rY (n:=n) h a j r
   rw [ay,<- Nat.add_assoc,xO h,ih,bf]
   have h1:=h (a + r) 0
   have h2:=h (a + r + 1) 0
   congr 1
   · refine au λk _=>?_
     have h3:=h (a + k) 0
     grind
   · unfold nvW
     rw [if_neg (by omega),show a + (r + 1) - 1=a + r by omega]
     grind
theorem mQ {f:Nat->Rat} {m:Nat}:∀ n,m<=n->(∀ k,m<=k->k < n->f k=0)->ay f n=ay f m
 | 0,h,_=>by rw [show m=0 by omega]
 | n + 1,h,g=>by
   by_cases e:m=n + 1
   · rw [e]
   · rw [ay,mQ n (by omega) λk h1 h2=>g k h1 (by omega),g n (by omega) (by omega),Rat.add_zero]
theorem wU {n:Nat} {c:Nat->Nat->Rat} (h:∀ i j,c i j ≠ 0) (a j:Nat):sld (nv (n + 1) c) a 0 (1 + j)=c a 0 * sld (nv n (dn c)) a 0 j:=by
 have e1:sld (nv (n + 1) c) a 0 (1 + j)=det (1 + j) (mulQ (1 + j) (λr k=>if k<=r then c (a + r) 0 / c (a + k) 0 else 0) (nvW n c a)):=by
   unfold sld mi
   refine aE λr hr y hy=>?_
   unfold mulQ
   show nv (n + 1) c (a + r) (0 + y)=ay (λk=>(if k<=r then c (a + r) 0 / c (a + k) 0 else 0) * nvW n c a k y) (1 + j)
   rw [Nat.zero_add,rY h a y r,mQ (f:=λk=>(if k<=r then c (a + r) 0 / c (a + k) 0 else 0) * nvW n c a k y) (m:=r + 1) (1 + j) (by omega) λk h1 _=>by
     show (if k<=r then _ else (0:Rat)) * _=0
     rw [if_neg (by omega),Rat.zero_mul]]
   refine au λk hk=>?_
   rw [if_pos (by omega)]
 have e2:det (1 + j) (λr k=>if k<=r then c (a + r) 0 / c (a + k) 0 else 0)=1:=by
   refine zF _ _ (λi _ k _ hk=>if_neg (by omega)) λi _=>?_
   show (if i<=i then c (a + i) 0 / c (a + i) 0 else 0)=(1:Rat)
   rw [if_pos (Nat.le_refl i),Rat.div_def,Rat.mul_inv_cancel _ (h _ _)]
 rw [e1,q9,e2,Rat.one_mul,cV j 1 (nvW n c a) λi h1 h2 y hy=>by
   unfold nvW
   rw [if_neg (by omega),show y=0 by omega]
   show c 0 0 * 0=0
   rw [Rat.mul_zero],gx]
 have e3:nvW n c a 0 0=c a 0:=by
   unfold nvW
   rw [if_pos rfl,tM h]
 rw [e3]
 congr 1
 have e4:det j (λr y=>nvW n c a (1 + r) (1 + y))=det j (mulQ j (λr l=>nv n (dn c) (a + r) l) (λl y=>if l<=y then c 0 (y + 1) / c 0 (l + 1) else 0)):=by
   refine aE λr hr y hy=>?_
   unfold nvW nvZ mulQ
   rw [if_neg (by omega),show a + (1 + r) - 1=a + r by omega,mQ (f:=λl=>nv n (dn c) (a + r) l * (if l<=y then c 0 (y + 1) / c 0 (l + 1) else 0)) (m:=y + 1) j (by omega) λk h1 _=>by
     show _ * (if k<=y then _ else (0:Rat))=0
     rw [if_neg (by omega),Rat.mul_zero],bf,Nat.add_comm 1 y]
   refine au λl hl=>?_
   rw [if_pos (by omega)]
   have h3:=h 0 (l + 1)
   grind
 have e5:det j (λl y=>if l<=y then c 0 (y + 1) / c 0 (l + 1) else 0)=1:=by
   refine pB _ _ (λi _ k hk=>if_neg (by omega)) λi _=>?_
   show (if i<=i then c 0 (i + 1) / c 0 (i + 1) else 0)=(1:Rat)
   rw [if_pos (Nat.le_refl i),Rat.div_def,Rat.mul_inv_cancel _ (h _ _)]
 rw [e4,q9,e5,Rat.mul_one]
 unfold sld mi
 refine aE λr hr y hy=>?_
 show _=nv n (dn c) (a + r) (0 + y)
 rw [Nat.zero_add]
theorem ve:∀ (n:Nat) (c:Nat->Nat->Rat),(∀ i j,c i j ≠ 0)->∀ a j,j < n->sld (nv n c) a 0 (j + 1)=c (a + j) j
 | 0,_,_,_,j,hj=>absurd hj (Nat.not_lt_zero j)
 | n + 1,c,h,a,j,hj=>by
   rw [Nat.add_comm j 1,wU h]
   cases j with
   | zero=>
     show c a 0 * 1=c a 0
     rw [Rat.mul_one]
   | succ j=>
     rw [ve n (dn c) (gB h) a j (by omega)]
     unfold dn
     rw [show a + j - j=a by omega,show j - (a + j)=0 by omega,Rat.mul_comm,Rat.div_mul_cancel (h a 0)]
     rfl
theorem tW {n:Nat} {c:Nat->Nat->Rat} (h:∀ i j,c i j ≠ 0) {i j:Nat} (hm:min i j < n):sld (nv n c) (i + 1 - (min i j + 1)) (j + 1 - (min i j + 1)) (min i j + 1)=c i j:=by
 by_cases q:j<=i
 · rw [show min i j=j by omega] at hm ⊢
   have:=ve n c h (i - j) j hm
   rw [show i - j + j=i by omega] at this
   rw [show i + 1 - (j + 1)=i - j by omega,show j + 1 - (j + 1)=0 by omega]
   exact this
 · rw [show min i j=i by omega] at hm ⊢
   have:=ve n (λx y=>c y x) (λx y=>h y x) (j - i) i hm
   rw [show j - i + i=j by omega] at this
   rw [show i + 1 - (i + 1)=0 by omega,show j + 1 - (i + 1)=j - i by omega,<- this]
   unfold sld
   rw [<- Dm]
   unfold mi
   exact aE λr hr y hy=>(yS n c _ _).symm
section
variable {P:Program} {w:World} {K:PySem.W.Frag} {mg:Str->Option Value} {base:Heap} {k:Nat} {f:Addr} {fd:FuncData} {qual:Str}
end
noncomputable def scS (s:Int) (q:Rat):Int:=s / (Int.gcd s (q.den:Nat):Int) * (q.den:Nat)
noncomputable def scL (r:List Rat):Int:=r.foldl scS 1
theorem uf {s:Int} (hs:0 < s) (q:Rat):0 < scS s q/\s ∣ scS s q/\((q.den:Nat):Int) ∣ scS s q:=by
 have hq:=den_pos q
 have g0:0 < (Int.gcd s (q.den:Nat):Int):=by
   have:=fg (i:=s) (j:=(q.den:Nat)) (by omega)
   have:=Int.natCast_nonneg (Int.gcd s (q.den:Nat))
   omega
 have d1:(Int.gcd s (q.den:Nat):Int) ∣ s:=Int.gcd_dvd_left ..
 have d2:(Int.gcd s (q.den:Nat):Int) ∣ ((q.den:Nat):Int):=Int.gcd_dvd_right ..
 have p1:0 < s / (Int.gcd s (q.den:Nat):Int):=Int.ediv_pos_of_pos_of_dvd hs (by omega) d1
 refine ⟨Int.mul_pos p1 hq,?_,Int.dvd_mul_left ..⟩
 obtain ⟨k,hk⟩:=d2
 refine ⟨k,?_⟩
 unfold scS
 conv=>lhs; rhs; rw [hk]
 rw [<- Int.mul_assoc,Int.ediv_mul_cancel d1]
theorem nW (r:List Rat) (q:Rat):scL (r++[q])=scS (scL r) q:=by unfold scL; rw [List.foldl_append]; rfl
theorem qw:∀ (r:List Rat) (s:Int),0 < s->0 < r.foldl scS s/\s ∣ r.foldl scS s/\∀ q ∈ r,((q.den:Nat):Int) ∣ r.foldl scS s
 | [],s,h=>⟨h,Int.dvd_refl _,λ_ z=>nomatch z⟩
 | q :: r,s,h=>by
   obtain ⟨a1,a2,a3⟩:=uf h q
   obtain ⟨b1,b2,b3⟩:=qw r _ a1
   exact ⟨b1,Int.dvd_trans a2 b2,λx hx=>(List.mem_cons.mp hx).elim (λe=>by rw [e]; exact Int.dvd_trans a3 b2) (b3 x)⟩
theorem jg (r:List Rat):0 < scL r/\∀ q ∈ r,((q.den:Nat):Int) ∣ scL r:=⟨(qw r 1 (by decide)).1,(qw r 1 (by decide)).2.2⟩
theorem vP {d:Nat}:∀ (r:List Rat) (s:Int) (n:Nat),Bd n s->(∀ q ∈ r,Bd d (q.den:Nat))->Bd (n + r.length * d) (r.foldl scS s)
 | [],s,n,h,_=>by simpa using h
 | q :: r,s,n,h,hd=>by
   have h1:Bd (n + d) (scS s q):=(h.ediv _).mul (hd q (List.mem_cons_self ..))
   have:=vP r _ _ h1 λx hx=>hd x (List.mem_cons_of_mem _ hx)
   rw [List.length_cons,Nat.succ_mul]
   rwa [show n + d + r.length * d=n + (r.length * d + d) by omega] at this
theorem mM {d:Nat} {r:List Rat} (h:∀ q ∈ r,Bd d (q.den:Nat)):Bd (1 + r.length * d) (scL r):=vP r 1 1 (by unfold Bd; decide) h
noncomputable def gS (ds:List D) (r:Sl):Prop:=∃ (q:List Rat) (d:Nat),ds=[rwQ q]/\q.length<=1000/\(∀ x ∈ q,Bd d (x.den:Nat))/\1 + q.length * d<=8999/\d<=8999/\r=.d (.int (scL q))
noncomputable def whR (r:List Rat) (s:Int):List Int:=r.map λq=>q.num * (s / (q.den:Nat))
theorem yV {q:Rat} {s:Int} (h:((q.den:Nat):Int) ∣ s):((q.num * (s / (q.den:Nat)):Int):Rat)=q * (s:Rat):=by
 obtain ⟨k,rfl⟩:=h
 have:=den_pos q
 rw [Int.mul_ediv_cancel_left _ (by omega),Rat.intCast_mul,Rat.intCast_mul,<- Rat.mul_assoc,eP]
noncomputable def fQ (ds:List D) (r:Sl):Prop:=∃ (q:List Rat) (s:Int) (n:Nat),ds=[rwQ q,.int s]/\q.length<=1000/\(∀ x ∈ q,Sq n x)/\n<=8999/\Bd 8999 s/\r=.o ((whR q s).map .int)
noncomputable def prZ (ns:List Int):Int:=ns.foldl (· * ·) 1
theorem iB (ns:List Int) (n:Int):prZ (ns++[n])=prZ ns * n:=by unfold prZ; rw [List.foldl_append]; rfl
theorem v8 {d:Nat}:∀ (r:List Int) (s:Int) (n:Nat),Bd n s->(∀ q ∈ r,Bd d q)->Bd (n + r.length * d) (r.foldl (· * ·) s)
 | [],s,n,h,_=>by simpa using h
 | q :: r,s,n,h,hd=>by
   have:=v8 r _ _ (h.mul (hd q (List.mem_cons_self ..))) λx hx=>hd x (List.mem_cons_of_mem _ hx)
   rw [List.length_cons,Nat.succ_mul]
   rwa [show n + d + r.length * d=n + (r.length * d + d) by omega] at this
theorem kz {d:Nat} {r:List Int} (h:∀ q ∈ r,Bd d q):Bd (1 + r.length * d) (prZ r):=v8 r 1 1 (by unfold Bd; decide) h
theorem rj:∀ (r:List Int) (s:Int),0 < s->(∀ q ∈ r,0 < q)->0 < r.foldl (· * ·) s
 | [],_,h,_=>h
 | q :: r,s,h,hq=>rj r _ (Int.mul_pos h (hq q (List.mem_cons_self ..))) λx hx=>hq x (List.mem_cons_of_mem _ hx)
theorem xl {r:List Int} (h:∀ q ∈ r,0 < q):0 < prZ r:=rj r 1 (by decide) h
noncomputable def cy (ds:List D) (r:Sl):Prop:=∃ (q:List Int) (d:Nat),ds=[.lst (q.map .int)]/\(∀ x ∈ q,Bd d x)/\1 + q.length * d<=900000/\d<=900000/\r=.d (.int (prZ q))
noncomputable def dQ (ds:List D) (r:Sl):Prop:=∃ (R:Nat) (M:List (List Rat)),ds=[tbQ M]/\Tq R R M/\r=.d .non
noncomputable def whM (M:List (List Rat)) (ss:List Int):List (List Int):=(List.range M.length).map λi=>whR (M.getD i []) (ss.getD i 0)
theorem ug {α β:Type} {f:α->D} {g:β->D} {xs:List α} {ys:List β} (d:α) (e:β) (i:Nat) (h:i < (jt (xs.map f) (ys.map g)).length):(jt (xs.map f) (ys.map g))[i]=.tup [f (xs.getD i d),g (ys.getD i e)]:=by
 rw [eo,List.length_map,List.length_map] at h
 have h1:i < xs.length:=by omega
 have h2:i < ys.length:=by omega
 simp [jt,h1,h2]
noncomputable def eV (ds:List D) (r:Sl):Prop:=∃ (M:List (List Rat)) (ss:List Int) (n:Nat),ds=[tbQ M,.lst (ss.map .int)]/\M.length=ss.length/\M.length<=1000/\(∀ r ∈ M,r.length<=1000/\∀ x ∈ r,Sq n x)/\n<=8999/\(∀ s ∈ ss,Bd 8999 s)/\r=.o ((whM M ss).map dtR)
noncomputable def pvF (G:List (List Int)) (k:Nat):Nat->Option Nat
 | 0=>none
 | t + 1=>match pvF G k t with
   | some i=>some i
   | none=>if (G.getD (k + t) []).getD k 0 ≠ 0 then some (k + t) else none
noncomputable def pvP (G:List (List Int)) (k:Nat):Option Nat:=pvF G k (G.length - k)
noncomputable def pvD:Option Nat->D
 | none=>.non
 | some i=>.int (i:Nat)
theorem o8 {G:List (List Int)} {k:Nat}:∀ t,pvF G k t=none->∀ i,i < t->(G.getD (k + i) []).getD k 0=0
 | t + 1,h,i,hi=>by
   rw [pvF] at h
   cases e:pvF G k t with
   | some j=>rw [e] at h; cases h
   | none=>
     rw [e] at h
     have h:(if (G.getD (k + t) []).getD k 0 ≠ 0 then some (k + t) else none)=none:=h
     by_cases z:i < t
     · exact o8 t e i z
     · obtain rfl:i=t:=by omega
       by_cases y:(G.getD (k + i) []).getD k 0=0
       · exact y
       · rw [if_pos y] at h; cases h
theorem oU {G:List (List Int)} {k:Nat}:∀ t j,pvF G k t=some j->k<=j/\j < k + t/\(G.getD j []).getD k 0 ≠ 0
 | t + 1,j,h=>by
   rw [pvF] at h
   cases e:pvF G k t with
   | some i=>
     rw [e] at h
     cases h
     have:=oU t _ e
     exact ⟨this.1,by omega,this.2.2⟩
   | none=>
     rw [e] at h
     have h:(if (G.getD (k + t) []).getD k 0 ≠ 0 then some (k + t) else none)=some j:=h
     split at h
     · rename_i y
       cases h
       exact ⟨by omega,by omega,y⟩
     · cases h
theorem oW {G:List (List Int)} {k:Nat} {t j:Nat} (h:pvF G k t=some j):∀ u,pvF G k (t + u)=some j
 | 0=>h
 | u + 1=>by rw [<- Nat.add_assoc,pvF,oW h u]
noncomputable def dH (ds:List D) (r:Sl):Prop:=∃ (n:Nat) (G:List (List Int)) (k:Nat),ds=[.lst (G.map dtR),.int (k:Nat)]/\G.length=n/\n<=1000/\(∀ r ∈ G,r.length=n)/\k < n/\r=.d (pvD (pvP G k))
noncomputable def clR (r p:List Int) (k:Nat) (l:Int) (n:Nat):List Int:=(List.range n).map λj=>((r.getD j 0 * p.getD k 0) - (p.getD j 0 * r.getD k 0)).fdiv l
noncomputable def i7 (ds:List D) (r:Sl):Prop:=∃ (n:Nat) (q p:List Int) (k:Nat) (l:Int) (B:Nat),ds=[dtR q,dtR p,.int (k:Nat),.int l]/\q.length=n/\p.length=n/\n<=1000/\k < n/\(∀ x ∈ q,Bd B x)/\(∀ x ∈ p,Bd B x)/\B<=900000/\l ≠ 0/\Bd 8999 l/\r=.o ((clR q p k l n).map .int)
section
variable {P:Program} {w:World} {K:PySem.W.Frag} {mg:Str->Option Value} {base:Heap} {k:Nat} {f:Addr} {fd:FuncData} {qual:Str}
theorem n8 (F:Fun K "scale_of" qual (top 41) f fd) (hb:∀ x ∈ aj,mg x=none) (c_common_divisor:Cal P w K mg base k "common_divisor" aX):aN P w K mg base CX0 (k + 1) f fd ["row"] (spD K gS):=by
 refine fnD F jk hb (by rintro _ _ ⟨_,_,rfl,_⟩; rfl) ?_
 rintro _ _ ⟨q,d,rfl,hl,hd,hb1,hd1,rfl⟩ cdv A outer s H E b
 have nd:=jk.nd
 refine aA 1 nd af ?_
 refine cb 2 (g:=λi=>frD (q.getD i 0)) (λi τ=>i<=q.length/\∃ s2,τ=[.d (rwQ q),.d (.int (scL (q.take i))),s2]) b nd (aY (aa 0)) (bW (f:=frD) (xs:=q) 0) ⟨Nat.zero_le _,.un,rfl⟩ (λi hi τ h=>?_) λτ h=>?_
 · obtain ⟨_,s2,rfl⟩:=h
   have hi:i < q.length:=by simpa using hi
   have mm:=bj (d:=(0:Rat)) hi
   have hs:=(jg (q.take i)).1
   have bs:Bd (1 + q.length * d) (scL (q.take i)):=(mM λx hx=>hd x (List.mem_of_mem_take hx)).mono (by
     have:(q.take i).length * d<=q.length * d:=Nat.mul_le_mul_right _ (by rw [List.length_take]; omega)
     omega)
   have et:q.take (i + 1)=q.take i++[q.getD i 0]:=by rw [List.take_succ,List.getElem?_eq_getElem hi]; simp [hi]
   rw [et,nW]
   generalize scL (q.take i)=sc at hs bs ⊢
   generalize q.getD i 0=x at mm ⊢
   have hx:=den_pos x
   have dv:aB (Int.gcd sc (x.den:Nat):Int):=((hd x mm).gcd (by omega)).aB (fg (by omega)) (by omega)
   refine aA 1 nd (aw (aw (aa 1) (x_call b c_common_divisor (ae (aa 1) (ae (aL (aa 2) af (aO (aD (i:=1) rfl))) ag)) ⟨_,_,rfl,rfl⟩) (a9 dv)) (aL (aa 2) af (aO (aD (i:=1) rfl))) (aU ?_)) (aV ⟨hi,.d (frD x),?_⟩)
   · rw [aT]; exact (bs.ediv _).aC (hd x mm) (by omega) (by omega)
   · rw [aT]; rfl
 · obtain ⟨_,s2,rfl⟩:=h
   rw [List.length_map,List.take_length]
   exact aK (aa 1) rfl
theorem me (F:Fun K "whole_row" qual (top 42) f fd) (hb:∀ x ∈ aj,mg x=none):aN P w K mg base CX0 (k + 1) f fd ["row","scale"] (spD K fQ):=by
 refine fnD F mh hb (by rintro _ _ ⟨_,_,_,rfl,_⟩; rfl) ?_
 rintro _ _ ⟨q,s0,n,rfl,hl,hq,hn,hs,rfl⟩ cdv A outer s H E b
 refine aK (eZ (cmp 0 (f:=λi=>.int ((q.getD i 0).num * (s0.fdiv ((q.getD i 0).den:Nat)))) b (aY (aa 0)) (bW (f:=frD) (xs:=q) 0) (by rw [List.length_map]; omega) λi hi s1 H0 fp=>?_)) ?_
 · have sq:=hq _ (bj (d:=(0:Rat)) (by simpa using hi))
   generalize q.getD i 0=x at sq ⊢
   have hx:=den_pos x
   have e:s0.fdiv (x.den:Nat)=s0 / (x.den:Nat):=Int.fdiv_eq_ediv_of_nonneg _ (by omega)
   exact aw (aL (aa 0) af (aO (aD (i:=0) rfl))) (aw (aa 1) (aL (aa 0) af (aO (aD (i:=1) rfl))) (a9 (sq.den.aB (by omega) (by omega)))) (aU (by rw [e]; exact sq.num.aC (hs.ediv _) (by omega) (by omega)))
 · refine congrArg Sl.o ((gk (λx:Rat=>D.int (x.num * (s0.fdiv (x.den:Nat)))) q 0 (List.length_map ..)).trans ?_)
   unfold whR
   rw [List.map_map]
   refine List.map_congr_left λx _=>?_
   simp only [Function.comp]
   rw [Int.fdiv_eq_ediv_of_nonneg _ (by have:=den_pos x; omega)]
theorem gY (F:Fun K "product_of_all" qual (top 44) f fd) (hb:∀ x ∈ aj,mg x=none):aN P w K mg base CX0 (k + 1) f fd ["numbers"] (spD K cy):=by
 refine fnD F dj hb (by rintro _ _ ⟨_,_,rfl,_⟩; rfl) ?_
 rintro _ _ ⟨q,d,rfl,hd,hb1,hd1,rfl⟩ cdv A outer s H E b
 have nd:=dj.nd
 refine aA 1 nd af ?_
 refine cb 2 (g:=λi=>.int (q.getD i 0)) (λi τ=>i<=q.length/\∃ s2,τ=[.d (.lst (q.map .int)),.d (.int (prZ (q.take i))),s2]) b nd (aY (aa 0)) (bW (f:=D.int) (xs:=q) 0) ⟨Nat.zero_le _,.un,rfl⟩ (λi hi τ h=>?_) λτ h=>?_
 · obtain ⟨_,s2,rfl⟩:=h
   have hi:i < q.length:=by simpa using hi
   have mm:=bj (d:=(0:Int)) hi
   have bs:Bd (1 + q.length * d) (prZ (q.take i)):=(kz λx hx=>hd x (List.mem_of_mem_take hx)).mono (by
     have:(q.take i).length * d<=q.length * d:=Nat.mul_le_mul_right _ (by rw [List.length_take]; omega)
     omega)
   have et:q.take (i + 1)=q.take i++[q.getD i 0]:=by rw [List.take_succ,List.getElem?_eq_getElem hi]; simp [hi]
   rw [et,iB]
   exact aA 1 nd (aw (aa 1) (aa 2) (aU (bs.aC (hd _ mm) (by omega) (by omega)))) (aV ⟨hi,_,rfl⟩)
 · obtain ⟨_,s2,rfl⟩:=h
   rw [List.length_map,List.take_length]
   exact aK (aa 1) rfl
theorem kG (F:Fun K "look_square" qual (top 40) f fd) (hb:∀ x ∈ aj,mg x=none):aN P w K mg base CX0 (k + 1) f fd ["table"] (spD K dQ):=by
 refine fnD F jV hb (by rintro _ _ ⟨_,_,rfl,_⟩; rfl) ?_
 rintro _ _ ⟨R,M,rfl,t,rfl⟩ cdv A outer s H E b
 have r1:=t.r1
 have e0:atI (M.map rwQ) 0=some (rwQ (M.getD 0 [])):=dF [] (i:=0) (by rw [t.len]; omega)
 refine cu (aZ (bh b (ae (aa 0) ag) (cN (n:=R) (by rw [List.length_map]; exact t.len))) (bh b (ae (aL (aa 0) af (aP e0)) ag) (cN (n:=R) (by rw [List.length_map]; exact t.at_ (by omega)))) jM) ?_ (aV rfl)
 rw [decide_eq_true rfl]; rfl
theorem k7 (F:Fun K "whole_rows" qual (top 43) f fd) (hb:∀ x ∈ aj,mg x=none) (c_whole_row:Cal P w K mg base k "whole_row" fQ):aN P w K mg base CX0 (k + 1) f fd ["table","scales"] (spD K eV):=by
 refine fnD F kZ hb (by rintro _ _ ⟨_,_,_,rfl,_⟩; rfl) ?_
 rintro _ _ ⟨M,ss,n,rfl,hl,h1,hM,hn,hs,rfl⟩ cdv A outer s H E b
 have zl:(jt (M.map rwQ) (ss.map D.int)).length=M.length:=by rw [eo,List.length_map,List.length_map]; omega
 refine aK (eZ (AY 0 1 (g:=λi=>rwQ (M.getD i [])) (g':=λi=>.int (ss.getD i 0)) (f:=λi=>dtR (whR (M.getD i []) (ss.getD i 0))) b (yI b (aa 0) (aa 1)) (ug [] 0) (by rw [zl]; omega) λi hi s0 H0 fp=>?_)) ?_
 · rw [zl] at hi
   obtain ⟨g1,g2⟩:=hM _ (bj (d:=[]) hi)
   exact bu (x_call (b.comp s0 H0 _ fp) c_whole_row (ae (aa 0) (ae (aa 1) ag)) ⟨_,_,n,rfl,g1,g2,hn,hs _ (bj (by omega)),rfl⟩)
 · unfold whM
   rw [zl,List.map_map]
   rfl
theorem jZ (F:Fun K "pivot_place" qual (top 46) f fd) (hb:∀ x ∈ aj,mg x=none):aN P w K mg base CX0 (k + 1) f fd ["grid","k"] (spD K dH):=by
 refine fnD F fZ hb (by rintro _ _ ⟨_,_,_,rfl,_⟩; rfl) ?_
 rintro _ _ ⟨n,G,k0,rfl,hG,h1,hr,hk,rfl⟩ cdv A outer s H E b
 have nd:=fZ.nd
 refine cb 2 (λi τ=>pvF G k0 i=none/\∃ s2,τ=[.d (.lst (G.map dtR)),.d (.int (k0:Nat)),s2]) b nd (va b (aa 1) (bh b (ae (aa 0) ag) (cN (n:=n) (by rw [List.length_map]; exact hG))) (by omega)) tS ⟨rfl,.un,rfl⟩ (λi hi τ h=>?_) λτ h=>?_
 · obtain ⟨h0,s2,rfl⟩:=h
   rw [aF] at hi
   have hi':k0 + i < n:=by omega
   have e:((k0:Int) + (i:Int))=((k0 + i:Nat):Int):=by omega
   rw [e]
   have a1:atI (G.map dtR) ((k0 + i:Nat):Int)=some (dtR (G.getD (k0 + i) [])):=dF [] (by omega)
   have hl:(G.getD (k0 + i) []).length=n:=hr _ (bj (by omega))
   have a2:atI ((G.getD (k0 + i) []).map D.int) (k0:Int)=some (.int ((G.getD (k0 + i) []).getD k0 0)):=atR (by omega)
   refine cv (aZ (aL (aL (aa 0) (aa 2) (aP a1)) (aa 1) (aP a2)) af jM) (λz=>?_) λz=>?_
   · refine aK (aa 2) ?_
     have z:(!decide ((G.getD (k0 + i) []).getD k0 0=0))=true:=z
     have z:(G.getD (k0 + i) []).getD k0 0 ≠ 0:=by simpa using z
     have e1:pvF G k0 (i + 1)=some (k0 + i):=by rw [pvF,h0]; exact if_pos z
     have e2:pvP G k0=some (k0 + i):=by
       unfold pvP
       have:=oW e1 (G.length - k0 - (i + 1))
       rwa [show i + 1 + (G.length - k0 - (i + 1))=G.length - k0 by omega] at this
     rw [e2]
     rfl
   · refine aV ⟨?_,_,rfl⟩
     have z:(!decide ((G.getD (k0 + i) []).getD k0 0=0))=false:=z
     have z:(G.getD (k0 + i) []).getD k0 0=0:=by simpa using z
     rw [pvF,h0]
     exact if_neg (λy=>y z)
 · obtain ⟨h0,s2,rfl⟩:=h
   rw [aF] at h0
   refine aK qP ?_
   have:pvP G k0=none:=by
     unfold pvP
     rw [hG,<- h0]
     congr 1
     omega
   rw [this]
   rfl
theorem pD (F:Fun K "cleared" qual (top 47) f fd) (hb:∀ x ∈ aj,mg x=none):aN P w K mg base CX0 (k + 1) f fd ["row","pivot_row","k","last"] (spD K i7):=by
 refine fnD F km hb (by rintro _ _ ⟨_,_,_,_,_,_,rfl,_⟩; rfl) ?_
 rintro _ _ ⟨n,q,p,k0,l,B,rfl,hq,hp,hn,hk,bq,bp,hB,hl,bl,rfl⟩ cdv A outer s H E b
 have nd:=km.nd
 have zl:(jt (q.map D.int) (p.map D.int)).length=n:=by rw [eo,List.length_map,List.length_map]; omega
 refine aA 4 nd (aL (aa 1) (aa 2) (aP (atR (by omega)))) ?_
 refine aA 5 nd (aL (aa 0) (aa 2) (aP (atR (by omega)))) ?_
 refine aK (eZ (AY 0 1 (g:=λi=>.int (q.getD i 0)) (g':=λi=>.int (p.getD i 0)) (f:=λj=>.int (((q.getD j 0 * p.getD k0 0) - (p.getD j 0 * q.getD k0 0)).fdiv l)) b (yI b (aa 0) (aa 1)) (ug 0 0) (by rw [zl]; omega) λi hi s0 H0 fp=>?_)) ?_
 · rw [zl] at hi
   have m1:=bq _ (bj (d:=(0:Int)) (show i < q.length by omega))
   have m2:=bp _ (bj (d:=(0:Int)) (show k0 < p.length by omega))
   have m3:=bp _ (bj (d:=(0:Int)) (show i < p.length by omega))
   have m4:=bq _ (bj (d:=(0:Int)) (show k0 < q.length by omega))
   exact aw (aw (aw (aa 0) (aa 4) (aU (m1.aC m2 (by omega) (by omega)))) (aw (aa 1) (aa 2) (aU (m3.aC m4 (by omega) (by omega)))) cY) (aa 3) (a9 (bl.aB hl (by decide)))
 · unfold clR
   rw [zl,List.map_map]
   rfl
end
theorem yG {α β:Type} (g:α->β) (x:α):∀ (m:Nat) (ys:List α),(ys.map g).insertIdx m (g x)=(ys.insertIdx m x).map g
 | 0,_=>rfl
 | m + 1,[]=>rfl
 | m + 1,y :: ys=>by rw [List.map_cons,List.insertIdx_succ_cons,List.insertIdx_succ_cons,List.map_cons,yG g x m ys]
theorem qp {α:Type} (d:α) {G:List α} {k m:Nat} (h:k + m < G.length) (i:Nat):((G.eraseIdx (k + m)).insertIdx k (G.getD (k + m) d)).getD i d=G.getD (rho k m i) d:=by
 have hl:(G.eraseIdx (k + m)).length=G.length - 1:=List.length_eraseIdx_of_lt h
 simp only [List.getD_eq_getElem?_getD]
 rw [List.getElem?_insertIdx]
 unfold rho
 by_cases h1:i < k
 · rw [if_pos h1,if_pos h1,List.getElem?_eraseIdx_of_lt (by omega)]
 · rw [if_neg h1,if_neg h1]
   by_cases h2:i=k
   · rw [if_pos h2,if_pos h2,if_pos (by omega)]
     rw [List.getElem?_eq_getElem h]
     rfl
   · rw [if_neg h2,if_neg h2,List.getElem?_eraseIdx]
     by_cases h3:i<=k + m
     · rw [if_pos h3,if_pos (by omega)]
     · rw [if_neg h3,if_neg (by omega),show i - 1 + 1=i by omega]
theorem ni {k m n i:Nat} (h:k + m < n) (hi:i < n):rho k m i < n/\(k<=i->k<=rho k m i):=by
 unfold rho
 repeat' split
 all_goals omega
theorem yw {n b k p q:Nat} {Y:Nat->Nat->Rat} (hY:∀ i < n,∀ j < n,ZB b (Y i j)) (hk:k < n) (hp:p < n) (hq:q < n) (h7:n<=7):ZB ((k + 1) * (b + 3)) (bm Y k p q):=by
 unfold bm
 exact tL (by omega) λr hr c hc=>hY _ (by split <;> omega) _ (by split <;> omega)
theorem yM {B c:Nat} {x:Rat} {z:Int} (h:ZB c x) (e:(z:Rat)=x) (hc:c < B):Bd B z:=by
 obtain ⟨y,e1,e2⟩:=h
 rw [e1] at e
 rw [Rat.intCast_inj.mp e]
 exact Nat.lt_of_le_of_lt e2 (Nat.pow_lt_pow_right (by decide) hc)
structure WI (n b:Nat) (M:Nat->Nat->Rat) (k:Nat) (G:List (List Int)) (s l:Int) (Y:Nat->Nat->Rat):Prop where
 zb:∀ i < n,∀ j < n,ZB b (Y i j)
 dt:det n M=(s:Rat) * det n Y
 sg:s=1\/s=-1
 last:(l:Rat)=det k Y
 nz:det k Y ≠ 0
 len:G.length=n
 row:∀ i,i < n->(G.getD i []).length=n
 ent:∀ i,k<=i->i < n->∀ j,j < n->(((G.getD i []).getD j 0:Int):Rat)=bm Y k i j
theorem WI.zero {n b:Nat} {Ms:List (List Int)} (h1:Ms.length=n) (hr:∀ r ∈ Ms,r.length=n/\∀ x ∈ r,x.natAbs<=2 ^ b):WI n b (dtM Ms) 0 Ms 1 1 (dtM Ms):=by
 have rw':∀ i,i < n->(Ms.getD i []).length=n:=λi hi=>(hr _ (bj (by omega))).1
 refine ⟨λi hi j hj=>⟨_,rfl,(hr _ (bj (d:=[]) (show i < Ms.length by omega))).2 _ (bj (d:=(0:Int)) (by rw [rw' i hi]; exact hj))⟩,?_,.inl rfl,rfl,by show (1:Rat) ≠ 0; decide,h1,rw',λi _ hi j hj=>?_⟩
 · rw [show ((1:Int):Rat)=1 from rfl,Rat.one_mul]
 · unfold bm
   rw [gx]
   rfl
theorem WI.rot {n b k m:Nat} {M Y:Nat->Nat->Rat} {G:List (List Int)} {s l:Int} (W:WI n b M k G s l Y) (h:k + m < n):WI n b M k ((G.eraseIdx (k + m)).insertIdx k (G.getD (k + m) [])) (if m % 2=1 then -s else s) l (λr=>Y (rho k m r)):=by
 have hG:k + m < G.length:=by rw [W.len]; exact h
 have e:=mE (k:=k) (n:=n) m Y h
 refine ⟨λi hi j hj=>W.zb _ (ni h hi).1 j hj,?_,?_,?_,?_,?_,λi hi=>?_,λi ki hi j hj=>?_⟩
 · rw [e,W.dt]
   unfold sgn
   by_cases z:m % 2=1
   · rw [if_pos z,if_neg (by omega),Rat.intCast_neg]
     simp [Rat.neg_mul,Rat.mul_neg]
   · rw [if_neg z,if_pos (by omega),Rat.one_mul]
 · rcases W.sg with z | z <;> rw [z] <;> split <;> first | exact .inl rfl | exact .inr rfl
 · rw [lI]; exact W.last
 · rw [lI]; exact W.nz
 · rw [List.length_insertIdx_of_le_length (by rw [List.length_eraseIdx_of_lt hG]; omega),List.length_eraseIdx_of_lt hG,W.len]; omega
 · rw [qp [] hG]; exact W.row _ (ni h hi).1
 · rw [qp [] hG,y7]
   exact W.ent _ ((ni h hi).2 ki) (ni h hi).1 j hj
theorem WI.clear {n b k:Nat} {M Y:Nat->Nat->Rat} {G:List (List Int)} {s l:Int} (W:WI n b M k G s l Y) (h:k < n) (h7:n<=7) {i:Nat} (ki:k < i) (hi:i < n) {j:Nat} (hj:j < n):(((clR (G.getD i []) (G.getD k []) k l n).getD j 0:Int):Rat)=bm Y (k + 1) i j:=by
 have g0:(clR (G.getD i []) (G.getD k []) k l n).getD j 0=(((G.getD i []).getD j 0 * (G.getD k []).getD k 0) - ((G.getD k []).getD j 0 * (G.getD i []).getD k 0)).fdiv l:=by
   unfold clR
   simp [hj]
 obtain ⟨z,e1,_⟩:=yw (k:=k + 1) (p:=i) (q:=j) W.zb (by omega) hi hj h7
 have st:=xJ (Y:=Y) (k:=k) (i:=i) (j:=j) W.nz
 rw [<- W.ent k (Nat.le_refl _) h k h,<- W.ent i (by omega) hi j hj,<- W.ent k (Nat.le_refl _) h j hj,<- W.ent i (by omega) hi k h,e1,<- W.last] at st
 have st':l * z=(G.getD k []).getD k 0 * (G.getD i []).getD j 0 - (G.getD k []).getD j 0 * (G.getD i []).getD k 0:=by
   apply Rat.intCast_inj.mp
   rw [Rat.intCast_mul,Rat.intCast_sub,Rat.intCast_mul,Rat.intCast_mul]
   exact st
 have l0:l ≠ 0:=λq=>W.nz (by rw [<- W.last,q]; rfl)
 rw [g0,Int.mul_comm ((G.getD i []).getD j 0),<- st',e1,Int.mul_fdiv_cancel_left _ l0]
theorem WI.next {n b k:Nat} {M Y:Nat->Nat->Rat} {G G':List (List Int)} {s l:Int} (W:WI n b M k G s l Y) (h:k < n) (h7:n<=7) (hp:(G.getD k []).getD k 0 ≠ 0) (hl:G'.length=n) (hG:∀ i,i < n->G'.getD i []=if k < i then clR (G.getD i []) (G.getD k []) k l n else G.getD i []):WI n b M (k + 1) G' s ((G.getD k []).getD k 0) Y:=by
 have e:=W.ent k (Nat.le_refl _) h k h
 rw [yc] at e
 refine ⟨W.zb,W.dt,W.sg,e,λz=>hp (by rw [z] at e; exact Rat.intCast_eq_zero_iff.mp e),hl,λi hi=>?_,λi ki hi j hj=>?_⟩
 · rw [hG i hi]
   split
   · unfold clR; simp
   · exact W.row i hi
 · rw [hG i hi,if_pos (by omega)]
   exact W.clear h h7 (by omega) hi hj
theorem WI.no {n b k:Nat} {M Y:Nat->Nat->Rat} {G:List (List Int)} {s l:Int} (W:WI n b M k G s l Y) (h:k < n) (hz:∀ i,i < n - k->(G.getD (k + i) []).getD k 0=0):det n M=0:=by
 rw [W.dt,xt W.nz h λp kp hp=>?_,Rat.mul_zero]
 rw [<- W.ent p kp hp k h,<- show k + (p - k)=p by omega,hz (p - k) (by omega)]
 rfl
theorem WI.bd {n b k:Nat} {M Y:Nat->Nat->Rat} {G:List (List Int)} {s l:Int} (W:WI n b M k G s l Y) (h7:n<=7) (hb:n * (b + 3)<=8998) {i:Nat} (ki:k<=i) (hi:i < n):∀ x ∈ G.getD i [],Bd 8999 x:=λx hx=>by
 obtain ⟨j,hj,rfl⟩:=List.getElem_of_mem hx
 have hj':j < n:=by rw [<- W.row i hi]; exact hj
 have e:=W.ent i ki hi j hj'
 have e2:(G.getD i []).getD j 0=(G.getD i [])[j]:=by rw [List.getD_eq_getElem?_getD (l:=G.getD i []),List.getElem?_eq_getElem hj]; rfl
 rw [e2] at e
 refine yM (yw W.zb (by omega) hi hj' h7) e ?_
 have:(k + 1) * (b + 3)<=n * (b + 3):=Nat.mul_le_mul_right _ (by omega)
 omega
theorem WI.lbd {n b k:Nat} {M Y:Nat->Nat->Rat} {G:List (List Int)} {s l:Int} (W:WI n b M k G s l Y) (hk:k<=n) (h7:n<=7) (hb:n * (b + 3)<=8998):Bd 8999 l:=by
 refine yM (tL (b:=b) (n:=k) (M:=Y) (by omega) λi hi j hj=>W.zb i (by omega) j (by omega)) W.last ?_
 have:k * (b + 3)<=n * (b + 3):=Nat.mul_le_mul_right _ hk
 omega
noncomputable def wdZ (Ms:List (List Int)):Int:=(det Ms.length (dtM Ms)).num
theorem uh {Ms:List (List Int)} {z:Int} (h:(z:Rat)=det Ms.length (dtM Ms)):wdZ Ms=z:=by unfold wdZ; rw [<- h]; rfl
noncomputable def bV (ds:List D) (r:Sl):Prop:=∃ (n b:Nat) (Ms:List (List Int)),ds=[.lst (Ms.map dtR)]/\Ms.length=n/\n<=7/\(∀ r ∈ Ms,r.length=n/\∀ x ∈ r,x.natAbs<=2 ^ b)/\n * (b + 3)<=8998/\r=.d (.int (wdZ Ms))
theorem uj {X:Cx} {o:Option Nat}:cg X (compareOp .Is) (pvD o) .non (.bl o.isNone):=⟨_,yR,λ_ v w H Q _ d1 d2 k=>by
 cases d2
 cases o with
 | none=>cases d1; exact ⟨rfl,by rw [decide_eq_true rfl]; exact k _ H (ai.refl _) .bl⟩
 | some i=>cases d1; exact ⟨rfl,by rw [decide_eq_false (by intro z; cases z)]; exact k _ H (ai.refl _) .bl⟩⟩
theorem Co (o:Option Nat):yh (.d (pvD o))=true:=by cases o <;> rfl
theorem x9 (ns:List Int):yh (.o (ns.map .int))=true:=by
 show (ns.map D.int).all flat=true
 rw [List.all_map,List.all_eq_true]
 intro _ _
 rfl
theorem nR {n m:Nat} (h:m < n):ixN n (m:Int)=some m:=by
 unfold ixN
 rw [if_pos (by omega),if_pos (by omega)]
 simp
section
variable {P:Program} {w:World} {K:PySem.W.Frag} {mg:Str->Option Value} {base:Heap} {k:Nat} {f:Addr} {fd:FuncData} {qual:Str}
set_option maxHeartbeats 1000000 in
theorem fL (F:Fun K "whole_determinant" qual (top 45) f fd) (hb:∀ x ∈ aj,mg x=none) (c_pivot_place:Cal P w K mg base k "pivot_place" dH) (c_cleared:Cal P w K mg base k "cleared" i7):aN P w K mg base CX0 (k + 1) f fd ["rows"] (spD K bV):=by
 refine fnD F cH hb (by rintro _ _ ⟨_,_,_,rfl,_⟩; rfl) ?_
 rintro _ _ ⟨n,b0,Ms,rfl,hl,h7,hr,hb0,rfl⟩ cdv A outer s H E b
 have nd:=cH.nd
 refine aA 1 nd (AN b (ae (aa 0) ag) qe) ?_
 refine aA 2 nd (bh b (ae (aa 0) ag) (cN (n:=n) (by rw [List.length_map]; exact hl))) ?_
 refine aA 3 nd af ?_
 refine aA 4 nd af ?_
 refine cb 5 (λi τ=>i<=n/\∃ G sg l Y s5 s6 s7,WI n b0 (dtM Ms) i G sg l Y/\τ=[.d (.lst (Ms.map dtR)),.o (G.map dtR),.d (.int (n:Nat)),.d (.int sg),.d (.int l),s5,s6,s7]) b nd (fJ b (aa 2) (by omega) (by omega)) fo ⟨Nat.zero_le _,Ms,1,1,_,.un,.un,.un,WI.zero hl hr,rfl⟩ (λi hi τ h=>?_) λτ h=>?_
 · obtain ⟨_,G,sg,l,Y,s5,s6,s7,W,rfl⟩:=h
   have hi:i < n:=by rw [aF] at hi; omega
   have gr:∀ r ∈ G,r.length=n:=λr hr'=>by
     obtain ⟨j,hj,rfl⟩:=List.getElem_of_mem hr'
     have:=W.row j (by rw [<- W.len]; exact hj)
     simpa [hj] using this
   refine aA 6 nd (u7 1 (C':=true) (s:=.d (pvD (pvP G i))) (x_call b c_pivot_place (ae (aa 1) (ae (aa 5) ag)) ⟨n,G,i,rfl,W.len,by omega,gr,hi,rfl⟩) (Co _)) ?_
   cases ep:pvP G i with
   | none=>
     refine cv (aZ (aa 6) qP (uj (o:=none))) (λ_=>?_) λz=>by cases z
     refine aK af ?_
     unfold pvP at ep
     rw [W.len] at ep
     have:=W.no hi (o8 _ ep)
     have:wdZ Ms=0:=uh (by rw [hl]; exact this.symm)
     rw [this]
   | some j=>
     unfold pvP at ep
     obtain ⟨kj,jn,hp⟩:=oU _ _ ep
     rw [W.len] at jn
     obtain ⟨m,rfl⟩:∃ m,j=i + m:=⟨j - i,by omega⟩
     have him:i + m < n:=by omega
     refine cu (aZ (aa 6) qP (uj (o:=some (i + m)))) rfl ?_
     have W2:=W.rot him
     refine mP (M:=λτ=>τ=[.d (.lst (Ms.map dtR)),.o (G.map dtR),.d (.int (n:Nat)),.d (.int (if m % 2=1 then -sg else sg)),.d (.int l),.d (.int (i:Nat)),.d (.int ((i + m:Nat):Int)),s7]) (aZ (aw (aw (aa 6) (aa 5) cY) af (b7 (by decide))) af fK) (λz=>?_) (λz=>?_) ?_
     · have z:=of_decide_eq_true z
       have:m % 2=1:=by rw [Int.fmod_eq_emod_of_nonneg _ (by decide)] at z; omega
       rw [if_pos this]
       exact aA 3 nd (uP (aa 3)) (aV rfl)
     · have z:=of_decide_eq_false z
       have:¬ m % 2=1:=by rw [Int.fmod_eq_emod_of_nonneg _ (by decide)] at z; omega
       rw [if_neg this]
       exact aV rfl
     rintro _ rfl
     have hiG:i + m < G.length:=by rw [W.len]; exact him
     have hxj:(G.map dtR)[i + m]?=some (dtR (G.getD (i + m) [])):=by simp [hiG]
     refine Ce 1 (k:=i) (j:=i + m) (dtR (G.getD (i + m) [])) (aa 5) (aa 6) hxj (by rw [List.length_map,W.len]; exact hi) (by rw [List.length_map,W.len]; omega) ?_
     have em:((G.map dtR).eraseIdx (i + m)).insertIdx i (dtR (G.getD (i + m) []))=((G.eraseIdx (i + m)).insertIdx i (G.getD (i + m) [])).map dtR:=by rw [<- vI,yG]
     rw [em]
     have hp2:(((G.eraseIdx (i + m)).insertIdx i (G.getD (i + m) [])).getD i []).getD i 0 ≠ 0:=by
       rw [qp [] (by rw [W.len]; exact him)]
       unfold rho
       rw [if_neg (by omega),if_pos rfl]
       exact hp
     generalize (G.eraseIdx (i + m)).insertIdx i (G.getD (i + m) [])=G2 at W2 hp2 ⊢
     generalize (if m % 2=1 then -sg else sg)=sg2 at W2 ⊢
     have l0:l ≠ 0:=λq=>W2.nz (by rw [<- W2.last,q]; rfl)
     refine cb 7 (g:=λt=>.int (((i:Int) + 1) + (t:Nat))) (λt τ=>∃ G3 s7,G3.length=n/\(∀ j,j < n->G3.getD j []=if i < j/\j < i + 1 + t then clR (G2.getD j []) (G2.getD i []) i l n else G2.getD j [])/\τ=[.d (.lst (Ms.map dtR)),.o (G3.map dtR),.d (.int (n:Nat)),.d (.int sg2),.d (.int l),.d (.int (i:Nat)),.d (.int ((i + m:Nat):Int)),s7]) b nd (va b (aw (aa 5) af bB) (aa 2) (by omega)) tS ⟨G2,s7,W2.len,λj _=>by rw [if_neg (by omega)],rfl⟩ (λt ht τ h=>?_) λτ h=>?_
     · obtain ⟨G3,s7,g1,g2,rfl⟩:=h
       rw [aF] at ht
       have hit:i + 1 + t < n:=by omega
       have ei:((i:Int) + 1) + (t:Nat)=((i + 1 + t:Nat):Int):=by omega
       rw [ei]
       have r3:G3.getD (i + 1 + t) []=G2.getD (i + 1 + t) []:=by rw [g2 _ hit,if_neg (by omega)]
       have r4:G3.getD i []=G2.getD i []:=by rw [g2 i hi,if_neg (by omega)]
       have a1:atI (G3.map dtR) ((i + 1 + t:Nat):Int)=some (dtR (G2.getD (i + 1 + t) [])):=by rw [<- r3]; exact dF [] (by omega)
       have a2:atI (G3.map dtR) (i:Int)=some (dtR (G2.getD i [])):=by rw [<- r4]; exact dF [] (by omega)
       refine BG 1 (xs:=G3.map dtR) (j:=i + 1 + t) (x:=dtR (clR (G2.getD (i + 1 + t) []) (G2.getD i []) i l n)) (aa 7) (bu (u7 1 (C':=true) (s:=.o ((clR (G2.getD (i + 1 + t) []) (G2.getD i []) i l n).map .int)) (x_call b c_cleared (ae (aL (aa 1) (aa 7) (aP a1)) (ae (aL (aa 1) (aa 5) (aP a2)) (ae (aa 5) (ae (aa 4) ag)))) ⟨n,_,_,i,l,8999,rfl,W2.row _ hit,W2.row _ hi,by omega,hi,W2.bd h7 hb0 (by omega) hit,W2.bd h7 hb0 (Nat.le_refl _) hi,by decide,l0,W2.lbd (by omega) h7 hb0,rfl⟩) (x9 _))) (nR (by rw [List.length_map,g1]; exact hit)) (aV ⟨G3.set (i + 1 + t) (clR (G2.getD (i + 1 + t) []) (G2.getD i []) i l n),.d (.int ((i + 1 + t:Nat):Int)),by rw [List.length_set]; exact g1,λj hj=>?_,by rw [List.map_set]; rfl⟩)
       by_cases z:j=i + 1 + t
       · subst z
         rw [if_pos (by omega)]
         simp [g1,hit]
       · have:(G3.set (i + 1 + t) (clR (G2.getD (i + 1 + t) []) (G2.getD i []) i l n)).getD j []=G3.getD j []:=by
           simp [List.getD_eq_getElem?_getD,List.getElem?_set_ne (Ne.symm z)]
         rw [this,g2 j hj]
         by_cases y:i < j/\j < i + 1 + t
         · rw [if_pos y,if_pos (by omega)]
         · rw [if_neg y,if_neg (by omega)]
     · obtain ⟨G3,s7,g1,g2,rfl⟩:=h
       rw [aF] at g2
       have r4:G3.getD i []=G2.getD i []:=by rw [g2 i hi,if_neg (by omega)]
       have a2:atI (G3.map dtR) (i:Int)=some (dtR (G2.getD i [])):=by rw [<- r4]; exact dF [] (by omega)
       have W3:=W2.next (G':=G3) hi h7 hp2 g1 λj hj=>by
         rw [g2 j hj]
         by_cases y:i < j
         · rw [if_pos (by omega),if_pos y]
         · rw [if_neg (by omega),if_neg y]
       exact aA 4 nd (u7 1 (C':=true) (s:=.d (.int ((G2.getD i []).getD i 0))) (aL (aL (aa 1) (aa 5) (aP a2)) (aa 5) (aP (atR (by rw [W2.row i hi]; exact hi)))) rfl) (aV ⟨hi,G3,sg2,_,_,_,_,_,W3,rfl⟩)
 · obtain ⟨_,G,sg,l,Y,s5,s6,s7,W,rfl⟩:=h
   rw [aF,Int.toNat_natCast] at W
   refine aK (aw (aa 3) (aa 4) (aU (mkL (by rcases W.sg with z | z <;> rw [z] <;> decide)))) ?_
   rw [uh (z:=sg * l) (by rw [hl,Rat.intCast_mul,W.last,W.dt])]
end
end K59
namespace Hy
open PySem PySem.Spec PyProof.Rows L2
open Ev (D Den aq ak ba aM)
noncomputable def Pj (σ:L2.St) (H:Hp) (i j k:Nat):Prop:=∃ a vs v,(σ[i]?).join=some (.ref a)/\H a=some (.lst vs)/\vs[k]?=some v/\σ[j]?=some (some v)
theorem Pj.mono {σ:L2.St} {H H':Hp} {i j k:Nat} (h:Pj σ H i j k) (e:ai H H'):Pj σ H' i j k:=let ⟨a,vs,v,e1,e2,e3,e4⟩:=h; ⟨a,vs,v,e1,e _ _ e2,e3,e4⟩
noncomputable def dPJ (K:PySem.W.Frag) (τ:List Sl) (i j k:Nat) (pt:List Nat):TE:=λσ H Q=>∃ A H₀ B,Sta K A H₀ τ B σ H/\Pj σ H i j k/\∀ u v H',(σ[i]?).join=some u->ai H H'->cI H' (k :: pt) u v->Q v H'
noncomputable def dEJ (K:PySem.W.Frag) (τ:List Sl) (i j k:Nat) (x:D):TE:=λσ H Q=>∃ A H₀ B,Sta K A H₀ τ B σ H/\Pj σ H i j k/\∀ v H',ai H H'->Den K (hd H' A) v x->Q v H'
noncomputable def dTJ (K:PySem.W.Frag) (τ:List Sl) (i j k:Nat) (c:Bool):TT:=λσ H Q=>∃ A H₀ B,Sta K A H₀ τ B σ H/\Pj σ H i j k/\∀ H',ai H H'->Q c H'
section
variable {X:Cx} {τ τ1 τ2:List Sl} {x y z:D} {a b e o ix:Expr} {es:List Expr} {pos p q:Pos} {l:Nat} {s:Sl} {N:Po} {st:Stmt} {body rest:List Stmt} {i j k:Nat} {t c:Nd} {pt:List Nat} {xs:List Nd} {m:Nat} {ds:List D}
theorem qk {n:Str} (hN:X.N[j]?=some n:=by rfl) (hv:Vis X.env.scope n:=by first | exact Or.inl rfl | exact Or.inr (Or.inl rfl) | exact Or.inr (Or.inr rfl))
   (hd:(n == ("__debug__" : Str))=false:=by decide) (hcd:(n == ("__classdict__" : Str))=false:=by decide):PE X (.Name n pos) (dPJ X.K τ i j k []):=
 peW (bT hN hv hd hcd) λ_ H _ ⟨_,_,_,_,⟨a,vs,v,e1,e2,e3,e4⟩,q⟩=>⟨v,e4,q _ v H e1 (ai.refl _) ⟨a,vs,v,rfl,.inl e2,e3,rfl⟩⟩
theorem Bj {z:Int} (ha:PE X a (dPJ X.K τ i j k pt)) (hb:PE X b (dE X.K false τ (.d (.int z)))) (hi:τ[i]?=some (.n t)) (hp:cM (k :: pt) t=some (.l xs)) (hj:ixN xs.length z=some m) (hs:gw b:=by exact λ_ _=>rfl):PE X (.Subscript a b pos) (dPJ X.K τ i j k (pt++[m])):=
 peW (rR mL ha hb hs) λσ H Q ⟨A,H₀,B,S,P,q⟩=>⟨A,H₀,B,S,P,λu v H1 eu e1 pv=>aQ (S.mono e1) λw H2 e2 d2=>by
   cases d2
   obtain ⟨u',v',m',eu',pv',ok,_⟩:=((S.mono e1).mono e2).at hi hp
   rw [eu] at eu'
   cases eu'
   obtain rfl:=(pv.mono e2).det pv'
   cases ok with
   | @l ad vs _ _ hH r=>
     obtain ⟨x,hx⟩:=rS r (ue hj)
     exact ⟨ad,vs,z,x,rfl,rfl,SqL.of hH,by unfold atI; rw [r.length,hj]; exact hx,q u x H2 eu (e1.trans e2) (pv'.snoc (.inl hH) hx)⟩⟩
theorem xj (h:PE X e (dPJ X.K τ i j k pt)) (hi:τ[i]?=some (.n t)) (hp:cM (k :: pt) t=some c):PE X e (dEJ X.K τ i j k (ndD c)):=peW h λσ H Q ⟨A,H₀,B,S,P,q⟩=>by
 refine ⟨A,H₀,B,S,P,λu v H1 eu e1 pv=>?_⟩
 obtain ⟨u',v',m',eu',pv',ok,hm⟩:=(S.mono e1).at hi hp
 rw [eu] at eu'
 cases eu'
 obtain rfl:=pv.det pv'
 exact q v H1 e1 (ok.den (az (ai.refl _) λ_ z=>.inl z) λb hb o ho=>ao.mpr ⟨λz=>(by obtain ⟨_,w⟩:=S.ad b z; rw [S.fr i b (hm b hb)] at w; cases w),ho⟩)
theorem Sta.below {K:PySem.W.Frag} {A:Addr->Prop} {H₀ H:Hp} {B:Nat->List Addr} {σ:L2.St} (S:Sta K A H₀ τ B σ H) (hi:τ[i]?=some (.n t)) (hp:cM (k :: pt) t=some (.l xs)) {r w:Addr} (hr:(σ[i]?).join=some (.ref r)) (hw:cI H (k :: pt) (.ref r) (.ref w)):w ≠ r:=by
 obtain ⟨nd,u,e,ok⟩:=S.sl i _ hi
 rw [hr] at e
 cases e
 generalize B i=bi at nd ok
 have key:∀ {vs:List V} {bs:List Addr} {ys:List Nd},aI K (hd H (own A B)) H vs bs ys->(ys[k]?).bind (cM pt)=some (.l xs)->(∃ v,vs[k]?=some v/\cI H pt v (.ref w))->w ∈ bs:=λ{vs bs ys} q e ⟨v,h1,h2⟩=>by
   cases ei:ys[k]? with
   | none=>rw [ei] at e; cases e
   | some c=>
     rw [ei] at e
     obtain ⟨v',l,m,r',g1,g2,g3,_⟩:=q.part ei
     rw [h1] at g1
     cases g1
     obtain ⟨w',l',m',q',f1,f2,f3,_⟩:=g3.focus pt e
     obtain rfl:=h2.det f1
     cases f3 with
     | l hH r2=>
       rw [g2,f2]
       exact List.mem_append_right _ (List.mem_append_left _ (List.mem_append_right _ (List.mem_append_left _ (List.mem_cons_self ..))))
 obtain ⟨a,vs,v,e1,e2,e3,e4⟩:=hw
 cases e1
 cases ok with
 | d h=>cases hp
 | @l _ vs' bs ys hH r0=>
   rw [cM] at hp
   have:vs=vs':=by rcases e2 with e2 | e2 <;> rw [hH] at e2 <;> cases e2; rfl
   subst this
   exact λz=>(List.nodup_cons.mp nd).1 (z ▸ key r0 hp ⟨v,e3,e4⟩)
 | @t _ vs' bs ys hH r0=>
   rw [cM] at hp
   have:vs=vs':=by rcases e2 with e2 | e2 <;> rw [hH] at e2 <;> cases e2; rfl
   subst this
   exact λz=>(List.nodup_cons.mp nd).1 (z ▸ key r0 hp ⟨v,e3,e4⟩)
theorem Cd {ns ms:List Nd} (h:k < ns.length):(ms.take k++ns.drop k)[k]?=some ns[k]\/ms.length < k:=by
 by_cases hm:ms.length < k
 · exact .inr hm
 · refine .inl ?_
   rw [List.getElem?_append_right (by simp; omega)]
   simp [Nat.min_eq_left (Nat.le_of_not_lt hm),h]
theorem wx {ns ms:List Nd} (h:k < ns.length) (h':k < ms.length):(ms.take k++ns.drop k).set k ms[k]=ms.take (k + 1)++ns.drop (k + 1):=by
 have hm:(ms.take k).length=k:=by simp; omega
 rw [List.set_append_right _ _ (by omega),hm,Nat.sub_self,List.drop_eq_getElem_cons h,List.set_cons_zero,List.take_add_one,List.getElem?_eq_getElem h',List.append_assoc]
 rfl
end
noncomputable def dSL (K:PySem.W.Frag) (τ:List Sl) (i j k:Nat) (τe:List Sl):TS:=λD σ H=>∃ A H₀ B,Sta K A H₀ τ B σ H/\Pj σ H i j k/\∀ B' σ' H',Sta K A H₀ τe B' σ' H'->Pj σ' H' i j k->σ'[i]?=σ[i]?->D.nx σ' H'
section
variable {X:Cx} {τ τ1 τ2:List Sl} {x y z:D} {a b e o ix:Expr} {es:List Expr} {pos p q:Pos} {l:Nat} {s:Sl} {N:Po} {st:Stmt} {body rest:List Stmt} {i j k:Nat} {t c:Nd} {pt:List Nat} {xs:List Nd} {m:Nat} {ds:List D}
theorem uX:PSs X [] (dSL X.K τ i j k τ):=kS jD λ_ σ H ⟨_,_,B,S,P,fin⟩=>fin B σ H S P rfl
theorem pZ (h1:PS X st (dSL X.K τ i j k τ1)) (h2:PSs X rest (dSL X.K τ1 i j k τ2)):PSs X (st :: rest) (dSL X.K τ i j k τ2):=
 kS (ic h1 h2) λ_ _ _ ⟨A,H₀,B,S,P,fin⟩=>⟨A,H₀,B,S,P,λB' _ _ S' P' e=>⟨A,H₀,B',S',P',λB2 σ2 H2 S2 P2 e2=>fin B2 σ2 H2 S2 P2 (e2.trans e)⟩⟩
theorem Cm (r:Nat) {x:D} (h:PSs X rest (dSL X.K (τ.set r .un) i j k τ2)) (hr:τ[r]?=some (.d x):=by rfl):PSs X rest (dSL X.K τ i j k τ2):=
 kS h λ_ _ _ ⟨A,H₀,_,S,P,fin⟩=>⟨A,H₀,_,S.less (bs:=[]) (s:=.un) (i:=r) (λ_ z=>nomatch z) (λ_ _ _=>rfl),P,fin⟩
theorem ej (h:PE X e (dE X.K false τ (.d x))):PE X e (dEJ X.K τ i j k x):=peW h λσ H Q ⟨A,H₀,B,S,_,q⟩=>aQ S λv H' e d=>q v H' e d
theorem zq (i j:Nat) {n v:Str} {ip tp:Pos} (ns ms:List Nd) (hnm:ns.length=ms.length) (Bq:Bk X l) (hN:X.N.Nodup) (hi:τ[i]?=some (.n (.l ns)))
   (hb:∀ k (h:k < ns.length) (h':k < ms.length) (r:List Nd),r[k]?=some ns[k]->PSs X body (dSL X.K (τ.set i (.n (.l r))) i j k (τ.set i (.n (.l (r.set k ms[k]))))))
   (hr:PSs X rest (dS X.K (τ.set i (.n (.l ms))) N)) (hj:τ[j]?=some .un:=by rfl) (hij:i ≠ j:=by decide) (hNi:X.N[i]?=some v:=by rfl) (hNj:X.N[j]?=some n:=by rfl)
   (hvi:Vis X.env.scope v:=by first | exact Or.inl rfl | exact Or.inr (Or.inl rfl) | exact Or.inr (Or.inr rfl)) (hlj:Loc X.env.scope n:=by first | exact .inl rfl | exact .inr rfl)
   (hf:X.fn n=true\/X.env.scope.names.lookup n=some .local:=by first | exact .inl rfl | exact .inr rfl | assumption)
   (hd1:(v == ("__debug__" : Str))=false:=by decide) (hd2:(v == ("__classdict__" : Str))=false:=by decide)
   (hs:∀ x,foldedSetIterable (.Name v ip) X.env x=pure x:=by intro _; rfl) :
   PSs X (.For (.Name n tp) (.Name v ip) body [] pos :: rest) (dS X.K τ N):=by
 have hlen:i < τ.length:=(List.getElem?_eq_some_iff.mp hi).1
 let mx:Nat->List Nd:=λk=>ms.take k++ns.drop k
 have ml:∀ k,k<=ns.length->(mx k).length=ns.length:=λk hk=>by simp [mx]; omega
 have tk:∀ k,(τ.set i (.n (.l (mx k))))[i]?=some (.n (.l (mx k))):=λk=>List.getElem?_set_self hlen
 have tj:∀ k,(τ.set i (.n (.l (mx k))))[j]?=some .un:=λk=>by rw [List.getElem?_set_ne hij]; exact hj
 have bd:PSs X body λD σ H=>∃ kk,kk < ns.length/\dSL X.K (τ.set i (.n (.l (mx kk)))) i j kk (τ.set i (.n (.l (mx (kk + 1))))) D σ H:=by
   rintro pins s σ H D I ⟨kk,hk,h⟩
   have hk':kk < ms.length:=by omega
   have:=hb kk hk hk' (mx kk) ((Cd (ms:=ms) hk).resolve_right (by omega))
   rw [wx hk hk'] at this
   exact this pins s σ H D I h
 have e0:mx 0=ns:=by simp [mx]
 have eE:mx ns.length=ms:=by simp [mx,hnm]
 refine a7 (M:=(·=τ.set i (.n (.l (mx ns.length))))) (psW (qj Bq.po (rH Bq.calm (bT hNi hvi hd1 hd2)) (cF hN hNj hlj hf) bd hs) λD σ H ⟨A,H₀,B,S,Me⟩=>?_) λ_ e=>by rw [e,eE]; exact hr
 obtain ⟨_,u,eu,ok⟩:=S.sl i _ hi
 generalize B i=bi at ok
 cases ok with
 | @l a vs bs0 _ hH r0=>
   refine ⟨_,slot_of eu,a,rfl,⟨_,SqL.of hH⟩,λk m σ' H'=>m=ns.length - k/\k<=ns.length/\(σ'[i]?).join=some (.ref a)/\∃ B',Sta X.K A H₀ (τ.set i (.n (.l (mx k)))) B' σ' H',⟨_,rfl,Nat.zero_le _,eu,B,by rw [e0,set_same hi]; exact S⟩,?_⟩
   rintro k m σ' H' ⟨rfl,hk,ea,B',S'⟩
   obtain ⟨_,u',eu',ok'⟩:=S'.sl i _ (tk k)
   rw [ea] at eu'
   cases eu'
   generalize B' i=bi' at ok'
   cases ok' with
   | @l _ vs' bs1 _ hH' r1=>
     have hlv:vs'.length=ns.length:=by rw [r1.length,ml k hk]
     by_cases hlt:k < ns.length
     · refine .inr ⟨⟨vs',vs'[k],SqL.of hH',List.getElem?_eq_getElem (by omega)⟩,λσ2 H2=>(σ2[i]?).join=some (.ref a)/\∃ B',Sta X.K A H₀ (τ.set i (.n (.l (mx (k + 1))))) B' σ2 H2,λσ2 H2 ⟨z1,z2⟩=>⟨ns.length - (k + 1),by omega,rfl,hlt,z1,z2⟩,λy H2 ⟨e1,e2⟩=>?_⟩
       subst e1
       have ey:=e2 vs' (SqL.of hH')
       have S2:=S'.set (ai.refl _) (i:=j) (v:=y) (s:=.un) (bs:=[]) (λ_ z=>nomatch z) rfl
       rw [set_same (tj k)] at S2
       have hjl:j < σ'.length:=by rw [S'.len,List.length_set]; exact (List.getElem?_eq_some_iff.mp hj).1
       have ei:((σ'.set j (some y))[i]?).join=some (.ref a):=by rw [List.getElem?_set_ne (Ne.symm hij)]; exact ea
       exact ⟨k,hlt,A,H₀,_,S2,⟨a,vs',y,ei,hH',ey,List.getElem?_set_self hjl⟩,λB3 σ3 H3 S3 _ e3=>⟨by rw [e3]; exact ei,B3,S3⟩⟩
     · obtain rfl:k=ns.length:=by omega
       exact .inl ⟨⟨vs',SqL.of hH',by omega⟩,Me.nx _ _ _ _ rfl S'⟩
end
section
variable {X:Cx} {τ τ1 τ2:List Sl} {x y z:D} {a b e o ix:Expr} {pos p q:Pos} {l:Nat} {N:Po} {st:Stmt} {body rest:List Stmt} {i j k:Nat} {t c:Nd} {pt:List Nat} {ds:List D}
end
section
variable {K:PySem.W.Frag} {G H:Hp}
end
section
variable {X:Cx} {τ:List Sl} {ia ia2 ib ib2:Expr} {N:Po} {rest:List Stmt} {xs:List Nd} {xa xb:Nd}
end
section
variable {X:Cx} {τ:List Sl} {e2:Expr} {N:Po} {rest:List Stmt} {pos p tp:Pos} {x2:D} {t:Nd}
theorem Ad (i:Nat) {n:Str} {md} (h2:PE X e2 (dE X.K true τ (.d x2))) (h:N.rt (.n (.t [t,.d x2]))) (hi:τ[i]?=some (.n t):=by rfl) (hN:X.N[i]?=some n:=by rfl)
   (hv:Vis X.env.scope n:=by first | exact Or.inl rfl | exact Or.inr (Or.inl rfl) | exact Or.inr (Or.inr rfl)) (hd1:(n == ("__debug__" : Str))=false:=by decide) (hcd:(n == ("__classdict__" : Str))=false:=by decide)
   (s1:starEach [.Name n p,e2] X.env=(false,eval (.Name n p) X.env) :: starEach [e2] X.env:=by rfl) (s2:starEach [e2] X.env=(false,eval e2 X.env) :: starEach [] X.env:=by rfl) :
   PSs X (.Return (some (.Tuple [.Name n p,e2] md tp)) pos :: rest) (dS X.K τ N):=
 a7 (M:=λ_=>False) (psW (kA (v5 (bF (bT (i:=i) hN hv hd1 hcd) (bF h2 dC s2) s1))) λD σ H ⟨A,H₀,B,S,Me⟩=>by
   obtain ⟨_,u,eu,_⟩:=S.sl i _ hi
   refine ⟨_,slot_of eu,aQ S λv2 H2 e2 d2=>⟨(show 2<=sizeLine by decide),λp hp=>?_⟩⟩
   have S2:=S.mono e2
   obtain ⟨nd,u',eu',ok⟩:=S2.sl i _ hi
   rw [eu] at eu'
   cases eu'
   have low:ai (hd H2 (own A B)) (hd H2 λb=>A b\/b ∈ B i):=az (ai.refl _) λb z=>z.elim .inl λz=>.inr ⟨i,z⟩
   have nds:aI X.K (hd H2 λb=>A b\/b ∈ B i) H2 [u,v2] (B i) [t,.d x2]:=by
     have:=aI.cons (ok.frame low λ_ _=>rfl) (.cons (b1:=[]) (b2:=[]) (.d (d2.mono low)) .nil)
     rw [List.append_nil,List.append_nil] at this
     exact this
   obtain ⟨z1,z2⟩:=AB (o:=.tup [u,v2]) hp nds nd
   refine Me.rt (.ref p) _ (p :: B i) _ h (S2.same.trans (ak hp _)) (λb hb'=>?_) ⟨z2,_,rfl,.t aJ z1⟩
   rcases List.mem_cons.mp hb' with w | w
   · subst w; exact ⟨S2.same.free hp,_,aJ⟩
   · obtain ⟨o,w2⟩:=S2.bd i b w
     exact ⟨S2.fr i b w,o,ak hp _ _ _ w2⟩) λ_ e=>e.elim
end
section
variable {P:Program} {w:World} {K:PySem.W.Frag} {mg:Str->Option Value} {base:Heap}
end
section
variable {X:Cx} {τ:List Sl} {es:List Expr} {pos p q pr:Pos} {k:Nat} {s:Sl} {ds:List D} {N:Po} {rest:List Stmt}
end
end Hy
namespace K59
open PySem PySem.Spec PyProof.Rows L2 Hy
open Ev (D Den aq aC aB)
theorem Qs.sq {d v:Nat} {q:Rat} (h:Qs d v q):Sq (v + d) q:=by
 refine ⟨?_,h.den.mono (by omega)⟩
 have h1:=h.den
 unfold Bd at h1 ⊢
 rw [Int.natAbs_natCast] at h1
 rw [Nat.pow_add]
 exact Nat.lt_of_le_of_lt h.val (Nat.mul_lt_mul_of_pos_left h1 (Nat.two_pow_pos v))
noncomputable def cL (ds:List D) (r:Sl):Prop:=∃ a b:Int,ds=[.int a,.int b]/\r=.d (.int (Int.gcd a b:Int))
noncomputable def kH (ds:List D) (r:Sl):Prop:=∃ (t b:Int) (q:Rat),ds=[.int t,.int b]/\0 < b/\Bd 8999 b/\(t:Rat)=q * (b:Rat)/\r=.d (frD q)
noncomputable def iJ (ds:List D) (r:Sl):Prop:=∃ (ns:List Int) (k:Nat),ds=[.lst (ns.map .int),.int k]/\r=.d (.int (ns.getD k 0))
noncomputable def Cp (t:List (List Rat)):D:=.lst (t.map λr=>.lst (r.map frD))
noncomputable def cT (t:List (List Rat)):Nd:=.l (t.map λr=>.l ((r.map frD).map .d))
theorem yu (xs:List D):nH (xs.map .d)=xs:=by
 induction xs with
 | nil=>rfl
 | cons x xs ih=>rw [List.map_cons,nH,ndD,ih]
theorem qE {α:Type} (f:α->List Nd):∀ t:List α,nH (t.map λr=>.l (f r))=t.map λr=>D.lst (nH (f r))
 | []=>rfl
 | r :: t=>by rw [List.map_cons,nH,ndD,qE f t]; rfl
theorem gO (t:List (List Rat)):ndD (cT t)=Cp t:=by
 unfold cT Cp
 rw [ndD,qE]
 congr 1
 exact List.map_congr_left λr _=>by rw [yu]
theorem yt {s:Int} (hs:0 < s) (q:Rat):(s * (q.den:Nat)) / (Int.gcd s (q.den:Nat):Int)=scS s q:=by
 unfold scS
 have d1:(Int.gcd s (q.den:Nat):Int) ∣ s:=Int.gcd_dvd_left ..
 rw [Int.mul_comm s,Int.mul_ediv_assoc _ d1,Int.mul_comm]
noncomputable def rwN (r:List Int):Nd:=.l ((r.map D.int).map .d)
noncomputable def px (R:List (List Int)):Nd:=.l (R.map rwN)
theorem Ae (R:List (List Int)):ndD (px R)=.lst (R.map dtR):=by
 unfold px rwN
 rw [ndD,qE]
 congr 1
 exact List.map_congr_left λr _=>by rw [yu]; rfl
noncomputable def iI (ds:List D) (r:Sl):Prop:=∃ (R C d v:Nat) (M:List (List Rat)),ds=[tbQ M]/\Tq R C M/\(∀ r ∈ M,∀ x ∈ r,Qs d v x)/\1 + C * d<=8999/\v + d<=8999/\r=.n (.t [px (whM M (M.map scL)),.d (.int (prZ (M.map scL)))])
theorem uB {M:List (List Rat)} {i:Nat} (h:i < M.length):((List.range (i + 1)).map λi=>whR (M.getD i []) (scL (M.getD i [])))=((List.range i).map λi=>whR (M.getD i []) (scL (M.getD i [])))++[whR (M.getD i []) (scL (M.getD i []))]:=by
 rw [List.range_succ,List.map_append]
 rfl
theorem w8 (M:List (List Rat)):(List.range M.length).map (λi=>whR (M.getD i []) (scL (M.getD i [])))=whM M (M.map scL):=by
 unfold whM
 refine List.map_congr_left λi hi=>?_
 have:i < M.length:=List.mem_range.mp hi
 simp [this]
section
variable {P:Program} {w:World} {K:PySem.W.Frag} {mg:Str->Option Value} {base:Heap} {k:Nat} {f:Addr} {fd:FuncData} {qual:Str}
theorem mH (F:Fun K "_law_divisor" qual (top 57) f fd) (hb:∀ x ∈ aj,mg x=none):aN P w K mg base CX0 (k + 1) f fd ["_law_one","_law_other"] (spD K cL):=by
 refine fnD F gZ hb (by rintro _ _ ⟨_,_,rfl,_⟩; rfl) ?_
 rintro _ _ ⟨x,y,rfl,rfl⟩ cdv A outer s H E b
 have nd:=gZ.nd
 refine aA 0 nd (bh b (ae (aa 0) ag) nY) (aA 1 nd (bh b (ae (aa 1) ag) nY) ?_)
 rw [hU,hU]
 refine rZ (λn t τ=>∃ (g:Nat) (s2:Sl),Nat.gcd g n=Int.gcd x y/\t=(decide ((0:Int) < n))/\τ=[.d (.int g),.d (.int n),s2]) b ⟨_,_,_,_,rfl,rfl,rfl⟩ (λn t τ h=>?_) (λn τ h=>?_) λn τ h=>?_
 · obtain ⟨g,s2,_,rfl,rfl⟩:=h
   exact aZ (aa 1) af Cu
 · obtain ⟨g,s2,hg,ht,rfl⟩:=h
   have hl:n ≠ 0:=λz=>by simp [z] at ht
   have e:(g:Int).fmod n=((g % n:Nat):Int):=by rw [Int.fmod_eq_emod_of_nonneg _ (by omega)]; rfl
   refine aA 2 nd (aw (aa 0) (aa 1) (b7 (by omega))) ?_
   rw [e]
   refine aA 0 nd (aa 1) (aA 1 nd (aa 2) (aV ⟨g % n,_,Nat.mod_lt g (Nat.pos_of_ne_zero hl),n,_,?_,rfl,rfl⟩))
   rw [<- hg,Nat.gcd_comm n,<- Nat.gcd_rec,Nat.gcd_comm]
 · obtain ⟨g,s2,hg,ht,rfl⟩:=h
   have hl:n=0:=by have:=of_decide_eq_false ht.symm; omega
   refine aK (aa 0) ?_
   rw [<- hg,hl,Nat.gcd_zero_right]
theorem sL (F:Fun K "_law_made" qual (top 58) f fd) (hb:∀ x ∈ aj,mg x=none) (c_l_divisor:Cal P w K mg base k "_law_divisor" cL):aN P w K mg base CX0 (k + 1) f fd ["_law_top","_law_bottom_here"] (spD K kH):=by
 refine fnD F lY hb (by rintro _ _ ⟨_,_,_,rfl,_⟩; rfl) ?_
 rintro _ _ ⟨t,c,q,rfl,h0,h1,hq,rfl⟩ cdv A outer s H E b
 have nd:=lY.nd
 have dv:aB (Int.gcd t c:Int):=(h1.gcd (by omega)).aB (fg (by omega)) (by decide)
 obtain ⟨e1,e2⟩:=cO h0 hq
 refine aA 2 nd (x_call b c_l_divisor (ae (aa 0) (ae (aa 1) ag)) ⟨_,_,rfl,rfl⟩) (aK (fj (ae (aw (aa 0) (aa 2) (a9 dv)) (ae (aw (aa 1) (aa 2) (a9 dv)) ag))) ?_)
 rw [aT,aT,<- e1,<- e2]
 rfl
theorem sr (F:Fun K "_law_cell" qual (top 55) f fd) (hb:∀ x ∈ aj,mg x=none):aN P w K mg base CX0 (k + 1) f fd ["_law_script","_law_k"] (spD K iJ):=by
 refine fnD F sQ hb (by rintro _ _ ⟨_,_,rfl,_⟩; rfl) ?_
 rintro _ _ ⟨ns,n,rfl,rfl⟩ cdv A outer s H E b
 refine cv (aZ (aa 1) (bh b (ae (aa 0) ag) jr) zG) (λh=>?_) λh=>?_
 · have h:=of_decide_eq_true h
   rw [List.length_map] at h
   exact aK (aL (aa 0) (aa 1) (aP (uG (by omega) (by omega)))) rfl
 · have h:=of_decide_eq_false h
   rw [List.length_map] at h
   refine aK af ?_
   show Sl.d (.int 0)=_
   rw [getD_none (by omega)]
set_option maxHeartbeats 1000000 in
theorem tI (F:Fun K "_law_rows" qual (top 64) f fd) (hb:∀ x ∈ aj,mg x=none) (c_l_divisor:Cal P w K mg base k "_law_divisor" cL):aN P w K mg base CX0 (k + 1) f fd ["_law_table_here"] (spD K iI):=by
 refine fnD F lR hb (by rintro _ _ ⟨_,_,_,_,_,rfl,_⟩; rfl) ?_
 rintro _ _ ⟨R,C,d,v,M,rfl,t,hq,z1,z2,rfl⟩ cdv A outer s H E b
 have nd:=lR.nd
 have r7:=t.r7
 have c7:=t.c7
 refine aA 1 nd (cw ag) ?_
 refine CH 1 (c:=.l []) ?_
 refine aA 2 nd af ?_
 refine cb 3 (g:=λi=>rwQ (M.getD i [])) (λi τ=>i<=M.length/\∃ s3 s4 s5,τ=[.d (tbQ M),.n (px ((List.range i).map λi=>whR (M.getD i []) (scL (M.getD i [])))),.d (.int (prZ ((M.map scL).take i))),s3,s4,s5]) b nd (aY (aa 0)) (bW (f:=rwQ) (xs:=M) []) ⟨Nat.zero_le _,.un,.un,.un,rfl⟩ (λi hi τ h=>?_) λτ h=>?_
 · obtain ⟨_,s3,s4,s5,rfl⟩:=h
   have hi:i < M.length:=by simpa using hi
   have mi:=bj (xs:=M) (d:=[]) hi
   have hiR:i < R:=by rw [<- t.len]; exact hi
   have hC:=t.at_ hiR
   have qr:=hq _ mi
   rw [uB hi]
   have et:(M.map scL).take (i + 1)=(M.map scL).take i++[scL (M.getD i [])]:=by
     rw [List.take_succ,List.getElem?_map,List.getElem?_eq_getElem hi]
     simp [hi]
   rw [et,iB]
   have bpr:Bd (1 + R * 8999) (prZ ((M.map scL).take i)):=(kz (d:=8999) λx hx=>by
     obtain ⟨r,hr,rfl⟩:=List.mem_map.mp (List.mem_of_mem_take hx)
     have:=mM (d:=d) (r:=r) λx hx=>(hq r hr x hx).den
     rw [t.row r hr] at this
     exact this.mono z1).mono (by
       have:((M.map scL).take i).length<=R:=by rw [List.length_take,List.length_map,t.len]; omega
       have:=Nat.mul_le_mul_right 8999 this
       omega)
   generalize prZ ((M.map scL).take i)=pr at bpr ⊢
   generalize hg:((List.range i).map λi=>whR (M.getD i []) (scL (M.getD i [])))=Gs
   have lGs:Gs.length=i:=by rw [<- hg]; simp
   generalize M.getD i []=row at mi hC qr ⊢
   refine aA 4 nd af ?_
   refine cb 5 (g:=λj=>frD (row.getD j 0)) (λj τ=>j<=row.length/\∃ s5,τ=[.d (tbQ M),.n (px Gs),.d (.int pr),.d (rwQ row),.d (.int (scL (row.take j))),s5]) b nd (aY (aa 3)) (bW (f:=frD) (xs:=row) 0) ⟨Nat.zero_le _,s5,rfl⟩ (λj hj τ h=>?_) λτ h=>?_
   · obtain ⟨_,s5,rfl⟩:=h
     have hj:j < row.length:=by simpa using hj
     have mm:=bj (d:=(0:Rat)) hj
     have hs:=(jg (row.take j)).1
     have bs:Bd (1 + C * d) (scL (row.take j)):=(mM λx hx=>(qr x (List.mem_of_mem_take hx)).den).mono (by
       have:(row.take j).length * d<=C * d:=Nat.mul_le_mul_right _ (by rw [List.length_take]; omega)
       omega)
     have et:row.take (j + 1)=row.take j++[row.getD j 0]:=by rw [List.take_succ,List.getElem?_eq_getElem hj]; simp [hj]
     rw [et,nW]
     generalize scL (row.take j)=sc at hs bs ⊢
     generalize row.getD j 0=x at mm ⊢
     have hx:=den_pos x
     have sd:=(qr x mm).den
     have dv:aB (Int.gcd sc (x.den:Nat):Int):=(sd.gcd (by omega)).aB (fg (by omega)) (by omega)
     refine aA 4 nd (aw (aw (aa 4) (aL (aa 5) af (aO (aD (i:=1) rfl))) (aU (bs.aC sd (by omega) (by omega)))) (x_call b c_l_divisor (ae (aa 4) (ae (aL (aa 5) af (aO (aD (i:=1) rfl))) ag)) ⟨_,_,rfl,rfl⟩) (a9 dv)) (aV ⟨hj,.d (frD x),?_⟩)
     rw [aT,yt hs]
     rfl
   · obtain ⟨_,s5,rfl⟩:=h
     rw [List.length_map,List.take_length]
     have br:=mM (d:=d) (r:=row) λx hx=>(qr x hx).den
     rw [hC] at br
     refine za (c:=rwN (whR row (scL row))) (fN 1) (eZ (cmp 0 (g:=λj=>frD (row.getD j 0)) (f:=λj=>.int ((row.getD j 0).num * ((scL row).fdiv ((row.getD j 0).den:Nat)))) b (aY (aa 3)) (bW (f:=frD) (xs:=row) 0) (by rw [List.length_map]; omega) λj hj s0 H0 fp=>?_)) rfl rfl ?hx ?_ ?_
     · have sq:=(qr _ (bj (d:=(0:Rat)) (show j < row.length by simpa using hj))).sq
       generalize row.getD j 0=x at sq ⊢
       have hx:=den_pos x
       have e:(scL row).fdiv (x.den:Nat)=scL row / (x.den:Nat):=Int.fdiv_eq_ediv_of_nonneg _ (by omega)
       exact aw (aL (aa 0) af (aO (aD (i:=0) rfl))) (aw (aa 1) (aL (aa 0) af (aO (aD (i:=1) rfl))) (a9 (sq.den.aB (by omega) (by omega)))) (aU (by rw [e]; exact sq.num.aC (br.ediv _) (by omega) (by omega)))
     case hx=>
       refine congrArg (λl=>some (Nd.l (l.map .d))) ((gk (λx:Rat=>D.int (x.num * ((scL row).fdiv (x.den:Nat)))) row 0 (List.length_map ..)).trans ?_)
       unfold whR
       rw [List.map_map]
       refine List.map_congr_left λx _=>?_
       simp only [Function.comp]
       rw [Int.fdiv_eq_ediv_of_nonneg _ (by have:=den_pos x; omega)]
     · rw [List.length_map,lGs]; omega
     · refine aA 2 nd (aw (aa 2) (aa 4) (aU (bpr.aC br (by omega) (by omega)))) (aV ⟨hi,.d (rwQ row),.d (.int (scL row)),s5,?_⟩)
       unfold px
       rw [List.map_append]
       rfl
 · obtain ⟨_,s3,s4,s5,rfl⟩:=h
   rw [List.length_map,w8,List.take_of_length_le (by rw [List.length_map]; exact Nat.le_refl _)]
   exact Ad 1 (aa 2) rfl
end
end K59
namespace L2
open PySem PySem.Spec PyProof.Rows
end L2
namespace Hy
open PySem PySem.Spec PyProof.Rows L2
open Ev (D Den aq ak ba aM aH fu dg PTs cE eh)
section
variable {P:Program} {w:World} {K:PySem.W.Frag} {mg:Str->Option Value} {base:Heap}
end
section
variable {X:Cx} {τ:List Sl} {es:List Expr} {pos p q pr:Pos} {k:Nat} {s:Sl} {ds xs:List D} {N:Po} {rest:List Stmt} {elt it:Expr} {scope:Scope}
end
end Hy
namespace Hy
open PySem PySem.Spec PyProof.Rows L2
open Ev (D Den aq ak)
section
variable {X:Cx} {C:Bool} {τ:List Sl} {e o:Expr} {k c i:Nat} {N:Po} {rest body:List Stmt} {cl:Nat->Addr} {n:Str} {fw S:Addr} {p p' q psm pr ph pos pc pq:Pos} {t:Nd} {pt:List Nat} {xs:List Nd}
theorem vh {ap cp:Pos} (ho:PE X o (dP X.K τ i pt)) (hi:τ[i]?=some (.n t)) (hp:cM pt t=some (.l xs)) (hr:PSs X rest (dS X.K (τ.set i (.n (b6 pt t (.l [])))) N))
   (hline:(ap.endLine == cp.line)=true:=by rfl) (hs:swapsWith (.Call (.Attribute o "clear" ap) [] [] cp) none pos.line X.env=pure false:=by rfl) (hbase:attributeBase o "clear" X.env (eval o X.env)=eval o X.env:=by rfl) :
   PSs X (.Expr (.Call (.Attribute o "clear" ap) [] [] cp) pos :: rest) (dS X.K τ N):=
 a7 (M:=(·=τ.set i (.n (b6 pt t (.l []))))) (psW (gu (AI PySem.F.plainAttrs_list PySem.F.slot_list_clear PySem.F.type_list_clear wa ho hbase hline) hs) λD σ H ⟨A,H₀,B,S,Me⟩=>by
   refine ⟨A,H₀,B,S,λu v H1 eu e1 pv=>?_⟩
   have S1:=S.mono e1
   obtain ⟨u',l,vs,bs0,eu',pv',hH,r0,nd0,hal,hown,put⟩:=S1.putN hi hp
   rw [eu] at eu'
   cases eu'
   obtain rfl:=pv.det pv'
   obtain ⟨B',S'⟩:=put (H1:=H1) (vs':=[]) (bs1:=[]) (xs':=[]) (ai.refl _) List.nodup_nil (λ_ z=>nomatch z) .nil
   exact ⟨.inl ⟨rfl,_,SqL.of hH⟩,l,vs,rfl,rfl,hH,Me.nx _ B' _ _ rfl S'⟩) λ_ e=>e ▸ hr
end
end Hy
namespace Lc
open PySem PySem.Spec PyProof.Rows L2
open PySem.AutoSeq1 (wpAny_loadPart')
open PySem.MeetsSeq PySem.MeetsSeq2 PySem.MeetsSeq3 PySem.SeqRoads2 PySem.SeqAt
open Ev (D Den aq eqD da toP)
section
variable {X:Cx} {pins:List (Addr × Obj)} {σ:L2.St} {H G:Hp} {s:Shared}
open Ev (cln eG dep fx b8 gn il jz)
theorem qS {K:PySem.W.Frag} {G:Hp}:∀ {vs:List V} {xs:List D} {us:List Value},aq K G vs xs->Vals vs us->∀ {j:Nat} {x:D},xs[j]?=some x->∃ v u,us[j]?=some u/\Den K G v x/\RelV v u
 | _,_,_,.cons d r,.cons q qs,0,x,e=>by cases e; exact ⟨_,_,rfl,d,q⟩
 | _,_,_,.cons d r,.cons q qs,j + 1,x,e=>qS r qs (j:=j) e
 | _,_,_,.nil,.nil,_,_,e=>by cases e
theorem vN (I:Inv X pins σ H s) (e:ai G H) {A:Around} {v v':V} {x y:D} {u u':Value} (d:Den X.K G v x) (r:RelV v u) (d':Den X.K G v' y) (r':RelV v' u') (c1:cln x=true) (c2:cln y=true) (hu:A.units + dep x < cLine):EqAt A s u u' (eqD x y):=by
 obtain ⟨as,z1⟩:=b8 I e d r c1
 obtain ⟨bs,z2⟩:=b8 I e d' r' c2
 rw [<- gn]
 refine eqAt_reads _ _ A s u u' as bs z1 z2 (by rw [il]; exact c1) (by rw [il]; exact c2) ?_
 rw [jz]
 exact Nat.lt_of_le_of_lt (Nat.add_le_add_left (Nat.min_le_left _ _) _) hu
end
end Lc
namespace Hy
open PySem PySem.Spec PyProof.Rows L2
open Ev (D Den aq da)
end Hy
namespace Hy
open PySem PySem.Spec PyProof.Rows L2
open Ev (D Den aq ak ba aM Ite An nc)
section
variable {X:Cx} {τ:List Sl} {k:Nat} {N:Po} {rest ret:List Stmt} {c:Expr} {ns:List Nd} {xs:List D} {p q ip tp pos bp cp pb:Pos}
end
end Hy
namespace Hy
open PySem PySem.Spec PyProof.Rows L2
open Ev (D Den aq aM eqD da eG cln dep fx)
section
variable {X:Cx} {k:Nat} {x:D} {xs:List D}
end
end Hy
namespace Hy
open PySem PySem.Spec PyProof.Rows L2
open Ev (D Den aq ak ba aM)
noncomputable def par:D->Bool
 | .tup [x,y]=>flat x && flat y
 | _=>false
mutual
noncomputable def hV:Nd->Bool
 | .d x=>par x
 | .l xs=>dM xs
 | .t xs=>dM xs
noncomputable def dM:List Nd->Bool
 | []=>true
 | x :: xs=>hV x && dM xs
end
mutual
noncomputable def ek:Nd->Bool
 | .d _=>true
 | .l xs=>fM xs
 | .t xs=>(xs.length != 2) && fM xs
noncomputable def fM:List Nd->Bool
 | []=>true
 | x :: xs=>ek x && fM xs
end
noncomputable def Odd (H:Hp) (b:Addr):Prop:=(∃ vs,H b=some (.lst vs))\/(∃ vs,H b=some (.tup vs)/\vs.length ≠ 2)\/∃ o,H b=some o/\((∃ φ,o=.ext φ)\/(∃ ob φ,o=.frz ob (.ext φ))\/∃ kvs,o=.dK kvs\/∃ ob,o=.frz ob (.dK kvs))
section
variable {K:PySem.W.Frag} {G H:Hp}
mutual
theorem bA.odd:∀ {u:V} {bs:List Addr} {t:Nd},bA K G H u bs t->ek t=true->∀ b ∈ bs,Odd H b
 | _,_,_,.d _,_,_,h=>nomatch h
 | _,_,_,.l h r,n,b,hb=>by
   rw [ek] at n
   rcases List.mem_cons.mp hb with rfl | hb
   · exact .inl ⟨_,h⟩
   · exact aI.odd r n b hb
 | _,_,_,.t (xs:=xs) h r,n,b,hb=>by
   rw [ek,Bool.and_eq_true] at n
   rcases List.mem_cons.mp hb with rfl | hb
   · exact .inr (.inl ⟨_,h,λz=>by rw [r.length] at z; simp [z] at n⟩)
   · exact aI.odd r n.2 b hb
theorem aI.odd:∀ {vs:List V} {bs:List Addr} {ts:List Nd},aI K G H vs bs ts->fM ts=true->∀ b ∈ bs,Odd H b
 | _,_,_,.nil,_,_,h=>nomatch h
 | _,_,_,.cons h r,n,b,hb=>by
   rw [fM,Bool.and_eq_true] at n
   exact (List.mem_append.mp hb).elim (bA.odd h n.1 b) (aI.odd r n.2 b)
end
theorem rq {M M':Addr->Prop} {v:V} {x:D} (hM:∀ b,M' b->M b\/Odd H b) (h:Den K (hd H M) v x) (f:par x=true):Den K (hd H M') v x:=by
 cases h with
 | non=>cases f
 | bl=>cases f
 | int=>cases f
 | str=>cases f
 | lst _ _=>cases f
 | box _=>cases f
 | @tup a vs ds h r=>
   cases r with
   | nil=>cases f
   | cons d1 r=>
     cases r with
     | nil=>cases f
     | cons d2 r=>
       cases r with
       | cons _ _=>cases f
       | nil=>
         rw [par,Bool.and_eq_true] at f
         refine .tup ?_ (.cons (fV d1 f.1) (.cons (fV d2 f.2) .nil))
         rcases h with (h | ⟨o,h⟩) | h
         · obtain ⟨h1,h2⟩:=ao.mp h
           refine .inl (.inl (ao.mpr ⟨λz=>?_,h2⟩))
           rcases hM a z with z | ⟨ws,z⟩ | ⟨ws,z,l⟩ | ⟨_,z,y⟩
           · exact h1 z
           · rw [h2] at z; cases z
           · rw [h2] at z; cases z; exact l rfl
           · rw [h2] at z; cases z; rcases y with ⟨_,y⟩ | ⟨_,_,y⟩ | ⟨_,y | ⟨_,y⟩⟩ <;> cases y
         · obtain ⟨h1,h2⟩:=ao.mp h
           refine .inl (.inr ⟨o,ao.mpr ⟨λz=>?_,h2⟩⟩)
           rcases hM a z with z | ⟨ws,z⟩ | ⟨ws,z,l⟩ | ⟨_,z,y⟩
           · exact h1 z
           · rw [h2] at z; cases z
           · rw [h2] at z; cases z
           · rw [h2] at z; cases z; rcases y with ⟨_,y⟩ | ⟨_,_,y⟩ | ⟨_,y | ⟨_,y⟩⟩ <;> cases y
         · exact .inr h
mutual
theorem bA.par {M M':Addr->Prop} (hM:∀ b,M' b->M b\/Odd H b):∀ {u:V} {bs:List Addr} {t:Nd},bA K (hd H M) H u bs t->hV t=true->bA K (hd H M') H u bs t
 | _,_,_,.d h,f=>by rw [hV] at f; exact .d (rq hM h f)
 | _,_,_,.l h r,f=>by rw [hV] at f; exact .l h (aI.par hM r f)
 | _,_,_,.t h r,f=>by rw [hV] at f; exact .t h (aI.par hM r f)
theorem aI.par {M M':Addr->Prop} (hM:∀ b,M' b->M b\/Odd H b):∀ {vs:List V} {bs:List Addr} {ts:List Nd},aI K (hd H M) H vs bs ts->dM ts=true->aI K (hd H M') H vs bs ts
 | _,_,_,.nil,_=>.nil
 | _,_,_,.cons h r,f=>by rw [dM,Bool.and_eq_true] at f; exact .cons (bA.par hM h f.1) (aI.par hM r f.2)
end
noncomputable def pK (τ:List Sl) (B:Nat->List Addr):Nat->List Addr:=λi=>if i < τ.length then B i else []
theorem eK {τ:List Sl} {B:Nat->List Addr} {i:Nat} {b:Addr} (h:b ∈ pK τ B i):i < τ.length/\b ∈ B i:=by
 unfold pK at h
 split at h
 · rename_i z; exact ⟨z,h⟩
 · cases h
theorem Sta.cut {A:Addr->Prop} {H₀:Hp} {τ:List Sl} {B:Nat->List Addr} {σ:L2.St} (S:Sta K A H₀ τ B σ H):Sta K A H₀ τ (pK τ B) σ H where
 same:=S.same
 len:=S.len
 sl:=λi s h=>by
   have hl:=(List.getElem?_eq_some_iff.mp h).1
   rw [show pK τ B i=B i from if_pos hl]
   exact (S.sl i s h).mono (az (ai.refl _) λb z=>z.elim .inl λ⟨j,z⟩=>.inr ⟨j,(eK z).2⟩) (ai.refl _)
 fr:=λi b h=>S.fr i b (eK h).2
 uq:=λi j b h g=>S.uq i j b (eK h).2 (eK g).2
 ad:=S.ad
 bd:=λi b h=>S.bd i b (eK h).2
theorem Sta.odd {A:Addr->Prop} {H₀:Hp} {τ:List Sl} {B:Nat->List Addr} {σ:L2.St} (S:Sta K A H₀ τ B σ H) (hn:∀ (i:Nat) (t:Nd),τ[i]?=some (Sl.n t)->ek t=true) (b:Addr) (h:own A (pK τ B) b):A b\/Odd H b:=by
 rcases h with h | ⟨i,h⟩
 · exact .inl h
 · obtain ⟨hl,hb⟩:=eK h
   have q:=S.sl i _ (List.getElem?_eq_getElem hl)
   have hn:=hn i
   rw [List.getElem?_eq_getElem hl] at hn
   generalize τ[i]=s at q hn
   cases s with
   | un=>rw [show B i=[] from q] at hb; cases hb
   | d x=>rw [q.1] at hb; cases hb
   | o xs=>
     obtain ⟨a,vs,e1,_,e3,_⟩:=q
     rw [e1] at hb
     rw [List.mem_singleton.mp hb]
     exact .inr (.inl ⟨_,e3⟩)
   | n t=>
     obtain ⟨_,u,_,ok⟩:=q
     exact .inr (ok.odd (hn t rfl) b hb)
   | x E=>
     obtain ⟨a,o,e1,_,e3,e4⟩:=q
     rw [e1] at hb
     rw [List.mem_singleton.mp hb]
     exact .inr (.inr (.inr ⟨_,e3,E.ext e4⟩))
end
section
variable {X:Cx} {τ:List Sl} {e:Expr} {pos:Pos} {N:Po} {rest:List Stmt}
end
section
variable {K:PySem.W.Frag} {A:Addr->Prop} {H₀ H:Hp} {τ:List Sl} {B:Nat->List Addr} {σ:L2.St}
end
section
variable {X:Cx} {τ:List Sl} {N:Po} {rest:List Stmt} {xs:List Nd} {pos p p2:Pos} {s:Sl} {c:Nd}
end
end Hy
namespace Hy
open PySem PySem.Spec PyProof.Rows L2
open Ev (D Den aq aC aB ak ba aM eqD da eG cln dep fx)
section
variable {X:Cx} {k:Nat} {x:D} {xs:List D}
theorem vT (hc:X.calm=true):fF X (.builtin "any") (λxs H Q=>∃ (p:Addr) (bs:List Bool),xs=[.ref p]/\SqL X.K H p (bs.map V.bl)/\Q (.bl (bs.any id)) H):=by
 intro pins s σ H xs us Q I r q
 obtain ⟨p,bs,rfl,h,q⟩:=q
 obtain ⟨u,rfl,ru⟩:∃ u,us=[u]/\RelV (.ref p) u:=by
   cases r with
   | cons r1 r=>cases r; exact ⟨_,rfl,r1⟩
 cases (show u=Value.ref _ from ru)
 obtain ⟨its,rv,pl,hz⟩:=I.list h
 obtain rfl:=fG rv
 have lt:∀ a,s.heap.IsList a (bs.map Value.bool).toArray->a ≠ s.heap.objs.size:=λa ⟨o,z,_⟩=>Nat.ne_of_lt (Heap.lt_size z)
 refine call_any_walk (wpAny_pyIter_list pl.isList ⟨_,_,_,_,_,_,λi=>(bs.map Value.bool)[i]? == some (Value.bool true),rfl,Walks.list (A:=X.A.in1) (I.ok.hd hc) _ _ (lt _ pl.isList) (bs.map Value.bool).toArray,⟨⟨_,Heap.get?_push_size _ rfl,rfl,rfl⟩,?_⟩,λi v s' Q' E' hP hQ=>?_,λh' tk hk=>?_⟩)
 · obtain ⟨o,z1,z2⟩:=pl.isList
   exact ⟨o,Heap.get?_push_of_some _ z1,z2⟩
 · have hP':(bs.map Value.bool)[i]?=some v:=by simpa using hP
   obtain ⟨c,_,rfl⟩:=List.mem_map.mp (List.mem_of_getElem? hP')
   refine wpAny_truthy_bool ?_
   have hQ:Q' ((bs.map Value.bool)[i]? == some (Value.bool true)) s':=hQ
   rw [hP'] at hQ
   cases c
   · exact hQ
   · exact hQ
 · refine ⟨.bl (bs.any id),H,I.kept (t':=tk) λb' o z=>?_,?_,q⟩
   · refine hk b' o (λhm=>?_) (Heap.get?_push_of_some _ z)
     have:b'=s.heap.objs.size:=by simpa using hm
     exact absurd (Heap.lt_size z) (by rw [this]; exact Nat.lt_irrefl _)
   · have e:∀ bs:List Bool,bs.any id=(List.range (bs.map Value.bool).toArray.size).any λi=>(bs.map Value.bool)[i]? == some (Value.bool true):=λbs=>by
       rw [List.size_toArray,List.length_map]
       induction bs with
       | nil=>rfl
       | cons b bs ih=>
         rw [List.any_cons,ih,List.length_cons,List.range_succ_eq_map,List.any_cons,List.any_map]
         congr 1
         cases b <;> rfl
     rw [e]; rfl
theorem vb (hc:X.calm=true) (bs:List Bool) (hx:xs=bs.map .bl):kJ X (.builtin "any") [.lst xs] (.d (.bl (bs.any id))):=⟨_,vT hc,λM vs H Q _ d q=>by
 subst hx
 cases d with
 | cons d r=>
   cases r
   cases d with
   | lst h r=>
     cases mZ r
     exact ⟨_,_,rfl,aM aW h,q _ H [] (ai.refl _) fD (iV .bl)⟩⟩
theorem zP (hu:X.A.units + 70 < cLine):OpR X (compareOp .In) (λv y H Q=>∃ G d xs a,y=.ref a/\ai G H/\Den X.K G v d/\Den X.K G (.ref a) (.lst xs)/\da d/\(∀ z ∈ xs,da z)/\Q (.bl (xs.any λz=>eqD z d)) H):=by
 classical
 intro pins s σ H v y u u' Q I rx ry ⟨G,d,xs,a,e0,sg,dx,dy,o1,o2,q⟩
 subst e0
 cases ry
 cases dy with
 | @lst _ vs _ hl r=>
   obtain ⟨its,rv,pl,hz⟩:=I.list (aM sg hl)
   have l1:=r.length
   have l2:=rv.length
   have i1:∀ A:Around,A.in1.units=A.units + 1:=λ_=>rfl
   have ev:∀ i (h:i < xs.length),∃ w,its[i]?=some w/\SeqAt.EqAt X.A.in1 s w u (eqD xs[i] d):=λi h=>by
     obtain ⟨v',w,e1,d1,r1⟩:=Lc.qS r rv (List.getElem?_eq_getElem h)
     have oz:=o2 _ (List.getElem_mem h)
     exact ⟨w,e1,Lc.vN I sg d1 r1 dx rx oz.1 o1.1 (by rw [i1]; have:=oz.2; omega)⟩
   let f:Value->Bool:=λw=>decide (∃ i,∃ h:i < xs.length,its[i]?=some w/\eqD xs[i] d=true)
   have an:its.toArray.any f=xs.any λz=>eqD z d:=by
     rw [Bool.eq_iff_iff]
     constructor
     · intro h
       obtain ⟨w,hw,h⟩:=List.any_eq_true.mp (by simpa using h)
       obtain ⟨i,hi,_,e⟩:=of_decide_eq_true h
       exact List.any_eq_true.mpr ⟨_,List.getElem_mem hi,e⟩
     · intro h
       obtain ⟨z,hz,e⟩:=List.any_eq_true.mp h
       obtain ⟨i,hi,rfl⟩:=List.getElem_of_mem hz
       obtain ⟨w,ew,_⟩:=ev i hi
       have:its.any f=true:=List.any_eq_true.mpr ⟨w,List.mem_of_getElem? ew,decide_eq_true ⟨i,hi,ew,e⟩⟩
       simpa using this
   refine SeqAt.in_listAt f pl.isList (λw hw=>?_) ⟨.bl _,H,I,rfl,?_⟩
   · have hw:w ∈ its:=by simpa using hw
     obtain ⟨i,hi,e⟩:=List.getElem_of_mem hw
     have hi':i < xs.length:=by omega
     have ei:its[i]?=some w:=by rw [List.getElem?_eq_getElem hi,e]
     by_cases c:∃ i,∃ h:i < xs.length,its[i]?=some w/\eqD xs[i] d=true
     · have:f w=true:=decide_eq_true c
       rw [this]
       obtain ⟨j,hj,ej,t⟩:=c
       obtain ⟨w',ew,q'⟩:=ev j hj
       rw [ej] at ew
       cases ew
       rw [t] at q'
       exact q'
     · have:f w=false:=decide_eq_false c
       rw [this]
       obtain ⟨w',ew,q'⟩:=ev i hi'
       rw [ei] at ew
       cases ew
       cases t:eqD xs[i] d with
       | true=>exact absurd ⟨i,hi',ei,t⟩ c
       | false=>rw [t] at q'; exact q'
   · rw [an]
     exact q
theorem uF (B:Bk X k) (h1:da x) (h2:∀ z ∈ xs,da z):cg X (compareOp .In) x (.lst xs) (.bl (xs.any λz=>eqD z x)):=⟨_,zP (by have:=B.room.un; omega),λM v w H Q _ d1 d2 q=>by
 cases d2 with
 | lst h r=>exact ⟨_,x,xs,_,rfl,aW,d1,.lst h r,h1,h2,q _ H (ai.refl _) .bl⟩⟩
end
section
variable {X:Cx} {C:Bool} {τ:List Sl} {x:D} {e o:Expr} {pos:Pos} {N:Po} {rest:List Stmt}
theorem zc {i:Nat} {pt:List Nat} {t:Nd} {ds:List D} {m:Int} {j:Nat} {ix:Expr} {sp:Pos} (ho:PE X o (dP X.K τ i pt)) (hx:PE X ix (dE X.K false τ (.d (.int m)))) (he:PE X e (dE X.K false τ (.d x))) (hpar:par x=true) (h2:∀ (i:Nat) (t:Nd),τ[i]?=some (Sl.n t)->ek t=true) (hi:τ[i]?=some (.n t)) (hp:cM pt t=some (.l (ds.map .d))) (hj:ixN ds.length m=some j)
   (hr:PSs X rest (dS X.K (τ.set i (.n (b6 pt t (.l ((ds.set j x).map .d))))) N))
   (hs:swapsWithSole [.Subscript o ix sp] e pos.line X.env=pure false:=by rfl) (hw:swappedStores [.Subscript o ix sp] e X.env=pure none:=by rfl) (h1:(assignEach [.Subscript o ix sp] X.env).map (·.2)=[assign (.Subscript o ix sp) X.env]:=by rfl)
   (ha:∀ v,assign (.Subscript o ix sp) X.env v=(do
     let ov <- holding [v] (eval o X.env)
     let iv <- holding [v,ov] (eval ix X.env)
     standAt sp
     holding [v,ov,iv] (setItem ov iv v)
     release [v,ov,iv] []):=by intro _; rfl) :
   PSs X (.Assign [.Subscript o ix sp] e pos :: rest) (dS X.K τ N):=
 a7 (M:=(·=τ.set i (.n (b6 pt t (.l ((ds.set j x).map .d)))))) (psW (mf he (p9 ho hx set_list ha) hs hw h1) λD σ H ⟨A,H₀,B0,S0,Me⟩=>aQ S0 λv H1 e1 d0=>by
   have S:=S0.cut
   have d1:Den X.K (hd H1 (own A (pK τ B0))) v x:=rq (λb z=>(S0.mono e1).odd h2 b z) d0 hpar
   generalize pK τ B0=B at S d1
   refine ⟨A,H₀,B,S.mono e1,λu w H2 eu e2 pv=>aQ ((S.mono e1).mono e2) λy H3 e3 d3=>?_⟩
   have S3:=((S.mono e1).mono e2).mono e3
   obtain ⟨u',l,vs,bs0,eu',pv',hH,r0,nd0,hal,hown,put⟩:=S3.putN hi hp
   rw [eu] at eu'
   cases eu'
   obtain rfl:=(pv.mono e3).det pv'
   cases d3
   obtain ⟨dl,rfl⟩:=gU r0
   refine ⟨l,vs,m,j,rfl,rfl,hH,by rw [dl.length]; exact hj,?_⟩
   have sm:ai (hd H3 (own A B)) (hd (upd H3 l (.lst (vs.set j v))) λb=>own A B b\/b ∈ ([]:List Addr)):=λb o z=>by
     obtain ⟨z1,z2⟩:=ao.mp z
     exact ao.mpr ⟨(λy=>y.elim z1 λy=>(nomatch y)),by rw [av (λy:b=l=>z1 (by rw [y]; exact hal))]; exact z2⟩
   obtain ⟨B',S'⟩:=put (H1:=H3) (vs':=vs.set j v) (bs1:=[]) (xs':=(ds.set j x).map .d) (ai.refl _) List.nodup_nil (λ_ z=>nomatch z) (nC ((jC j dl (d1.mono (az (e2.trans e3) λ_ z=>z))).mono sm))
   exact Me.nx _ B' _ _ rfl S') λ_ e=>e ▸ hr
end
end Hy
namespace K59
open PySem PySem.Spec PyProof.Rows L2 Hy
open Ev (D Den aq aC aB)
noncomputable def u0 (M:List (List Rat)) (i j:Nat) (q:Rat):List (List Rat):=M.set i ((M.getD i []).set j q)
theorem wV {M:List (List Rat)} {i:Nat} (hi:i < M.length):cM [i] (cT M)=some (.l (((M.getD i []).map frD).map .d)):=by
 unfold cT
 rw [cM,List.getElem?_map,List.getElem?_eq_getElem hi]
 simp [cM,hi]
theorem rD {M:List (List Rat)} {i j:Nat} {q:Rat}:b6 [i] (cT M) (.l ((((M.getD i []).map frD).set j (frD q)).map .d))=cT (u0 M i j q):=by
 unfold cT u0
 simp only [List.map_set]
 rfl
noncomputable def mkT (R C:Nat) (G:Nat->Nat->Rat):List (List Rat):=(List.range R).map λi=>(List.range C).map (G i)
theorem cU (R C:Nat) (G:Nat->Nat->Rat):(mkT R C G).length=R:=by simp [mkT]
theorem eW {R C i:Nat} {G:Nat->Nat->Rat} (hi:i < R):(mkT R C G).getD i []=(List.range C).map (G i):=by simp [mkT,hi]
theorem qL {R C i j:Nat} {G:Nat->Nat->Rat} (hi:i < R) (hj:j < C):((mkT R C G).getD i []).getD j 0=G i j:=by rw [eW hi]; simp [hj]
theorem ja {R C:Nat} {G H:Nat->Nat->Rat} (h:∀ i,i < R->∀ j,j < C->G i j=H i j):mkT R C G=mkT R C H:=by
 unfold mkT
 refine List.map_congr_left λi hi=>List.map_congr_left λj hj=>h i (List.mem_range.mp hi) j (List.mem_range.mp hj)
theorem gi {R C:Nat} {G:Nat->Nat->Rat} (r1:1<=R) (r7:R<=7) (c1:1<=C) (c7:C<=7):Tq R C (mkT R C G):=⟨r1,r7,c1,c7,cU R C G,λr hr=>by
 unfold mkT at hr
 obtain ⟨i,_,rfl⟩:=List.mem_map.mp hr
 simp⟩
theorem se {R C i j:Nat} {G:Nat->Nat->Rat} {q:Rat} (hi:i < R):u0 (mkT R C G) i j q=mkT R C λx y=>if x=i/\y=j then q else G x y:=by
 unfold u0
 rw [eW hi]
 unfold mkT
 refine List.ext_getElem (by simp) λx h1 h2=>?_
 rw [List.getElem_set]
 by_cases e:i=x
 · subst e
   rw [if_pos rfl]
   simp only [List.getElem_map,List.getElem_range]
   refine List.ext_getElem (by simp) λy h3 h4=>?_
   rw [List.getElem_set]
   simp only [List.getElem_map,List.getElem_range,true_and]
   by_cases e:j=y
   · rw [if_pos e,if_pos e.symm]
   · rw [if_neg e,if_neg λz=>e z.symm]
 · rw [if_neg e]
   simp only [List.getElem_map,List.getElem_range]
   refine List.map_congr_left λy _=>?_
   rw [if_neg λz=>e z.1.symm]
noncomputable def Cq (w d m:Nat) (r:Nat->Rat):Prop:=∃ D:Int,0 < D/\D.natAbs<=2 ^ d/\∀ a < w,∃ z:Int,(z:Rat)=r a * (D:Rat)/\z.natAbs<=2 ^ m
theorem gj {i j:Int} {a b:Nat} (p:i.natAbs<=2 ^ a) (q:j.natAbs<=2 ^ b):(i * j).natAbs<=2 ^ (a + b):=by rw [Int.natAbs_mul,Nat.pow_add]; exact Nat.mul_le_mul p q
theorem pC {R C i:Nat} {G:Nat->Nat->Rat} (hi:i < R):ixN ((mkT R C G).map λr=>Nd.l ((r.map frD).map .d)).length (i:Int)=some i:=by rw [List.length_map,cU]; exact nR hi
theorem rW {R C i j:Nat} {G:Nat->Nat->Rat} (hi:i < R) (hj:j < C):ixN (((mkT R C G).getD i []).map frD).length (j:Int)=some j:=by
 rw [List.length_map,eW hi,List.length_map,List.length_range]
 exact nR hj
theorem mD {R C i:Nat} {G:Nat->Nat->Rat} (hi:i < R):cM [i] (cT (mkT R C G))=some (.l ((((mkT R C G).getD i []).map frD).map .d)):=wV (by rw [cU]; exact hi)
theorem Qs.of {t b:Int} {q:Rat} {d v:Nat} (hb:0 < b) (h:(t:Rat)=q * (b:Rat)) (hd:Bd d b) (hv:t.natAbs<=2 ^ v):Qs d v q:=by
 obtain ⟨e1,e2⟩:=cO hb h
 refine ⟨by rw [e2]; exact hd.ediv _,?_⟩
 have h1:q.num.natAbs<=t.natAbs:=by rw [e1]; exact Int.natAbs_ediv_le_natAbs ..
 exact Nat.le_trans h1 (Nat.le_trans hv (Nat.le_mul_of_pos_right _ q.den_pos))
theorem Cq.qs {w d m a:Nat} {r:Nat->Rat} (h:Cq w d m r) (ha:a < w):Qs (d + 1) m (r a):=by
 obtain ⟨D,h0,h1,h⟩:=h
 obtain ⟨z,hz,h2⟩:=h a ha
 refine Qs.of h0 hz ?_ h2
 unfold Bd
 rw [Nat.pow_succ]
 have:=Nat.two_pow_pos d
 omega
section
variable {P:Program} {w:World} {K:PySem.W.Frag} {mg:Str->Option Value} {base:Heap} {k:Nat} {f:Addr} {fd:FuncData} {qual:Str}
end
noncomputable def lv (c:Nat->Nat->Rat):Nat->Nat->Nat->Rat
 | 0=>c
 | s + 1=>λi j=>c (i + s + 1) (j + s + 1) / c (i - j + s) (j - i + s)
theorem BN {c:Nat->Nat->Rat} (h:∀ i j,c i j ≠ 0):∀ s,dn (lv c s)=lv c (s + 1)
 | 0=>rfl
 | s + 1=>by
   funext i j
   show c (i + 1 + s + 1) (j + 1 + s + 1) / c (i + 1 - (j + 1) + s) (j + 1 - (i + 1) + s) / (c (i - j + s + 1) (j - i + s + 1) / c (i - j - (j - i) + s) (j - i - (i - j) + s))=c (i + (s + 1) + 1) (j + (s + 1) + 1) / c (i - j + (s + 1)) (j - i + (s + 1))
   rw [show i + 1 - (j + 1)=i - j by omega,show j + 1 - (i + 1)=j - i by omega,show i - j - (j - i)=i - j by omega,show j - i - (i - j)=j - i by omega,show i + 1 + s + 1=i + (s + 1) + 1 by omega,show j + 1 + s + 1=j + (s + 1) + 1 by omega,<- Nat.add_assoc (i - j),<- Nat.add_assoc (j - i)]
   have h1:=h (i - j + s) (j - i + s)
   have h2:=h (i - j + s + 1) (j - i + s + 1)
   generalize c (i - j + s) (j - i + s)=x at h1 ⊢
   generalize c (i - j + s + 1) (j - i + s + 1)=y at h2 ⊢
   grind
noncomputable def nuA (c:Nat->Nat->Rat):Nat->Nat->Rat
 | 0,_=>1
 | s + 1,i=>c (i + s) s
noncomputable def nuB (c:Nat->Nat->Rat):Nat->Nat->Rat
 | 0,_=>1
 | s + 1,j=>c s (j + s)
theorem pO {c:Nat->Nat->Rat} (h:∀ i j,c i j ≠ 0):∀ s i,nuA c s i ≠ 0
 | 0,_=>(by decide:(1:Rat) ≠ 0)
 | s + 1,i=>h _ _
theorem uV {c:Nat->Nat->Rat} (h:∀ i j,c i j ≠ 0):∀ s i,nuB c s i ≠ 0
 | 0,_=>(by decide:(1:Rat) ≠ 0)
 | s + 1,i=>h _ _
theorem Aq (c:Nat->Nat->Rat):∀ s i,lv c s i 0=c (i + s) s / nuA c s i
 | 0,i=>by show c i 0=c i 0 / 1; grind
 | s + 1,i=>by
   show c (i + s + 1) (0 + s + 1) / c (i - 0 + s) (0 - i + s)=c (i + (s + 1)) (s + 1) / c (i + s) s
   rw [Nat.zero_add,Nat.zero_sub,Nat.zero_add,Nat.sub_zero]
   rfl
theorem A3 (c:Nat->Nat->Rat):∀ s j,lv c s 0 j=c s (j + s) / nuB c s j
 | 0,j=>by show c 0 j=c 0 j / 1; grind
 | s + 1,j=>by
   show c (0 + s + 1) (j + s + 1) / c (0 - j + s) (j - 0 + s)=c (s + 1) (j + (s + 1)) / c s (j + s)
   rw [Nat.zero_add,Nat.zero_sub,Nat.zero_add,Nat.sub_zero]
   rfl
noncomputable def nu (n:Nat) (c:Nat->Nat->Rat) (s i j:Nat):Rat:=nv n (lv c s) i j * (nuA c s i * nuB c s j)
theorem xM {n:Nat} {c:Nat->Nat->Rat} (h:∀ i j,c i j ≠ 0) (s i j:Nat):nu (n + 1) c s i j=c (i + s) s * c s (j + s) * (nuA c s 0 / c s s) + ay (λk=>ay (λl=>c (i + s) s * c s (j + s) * (nu n c (s + 1) k l * (nuA c s (k + 1) * nuB c s (l + 1)) / (c (k + s) s * c (k + 1 + s) s * (c s (l + s) * c s (l + 1 + s))))) j) i:=by
 unfold nu
 show lv c s i 0 * lv c s 0 j * (1 / lv c s 0 0 + ay (λk=>ay (λl=>nv n (dn (lv c s)) k l / (lv c s (k + 1) 0 * lv c s 0 (l + 1))) j) i) * (nuA c s i * nuB c s j)=_
 have a1:=pO h s i
 have b1:=uV h s j
 have e0:lv c s i 0 * lv c s 0 j * (nuA c s i * nuB c s j)=c (i + s) s * c s (j + s):=by
   rw [Aq,A3]
   grind
 have e1:1 / lv c s 0 0=nuA c s 0 / c s s:=by
   have:=pO h s 0
   have:=h s s
   rw [Aq,Nat.zero_add]
   grind
 have mrc:∀ x y z:Rat,x * y * z=x * z * y:=λx y z=>by rw [Rat.mul_assoc,Rat.mul_comm y,<- Rat.mul_assoc]
 rw [mrc,e0,e1,Rat.mul_add,BN h,bf]
 congr 1
 refine au λk _=>?_
 rw [bf]
 refine au λl _=>?_
 congr 1
 have h1:=pO h s (k + 1)
 have h2:=uV h s (l + 1)
 have h3:=h (k + 1 + s) s
 have h4:=h s (l + 1 + s)
 have h5:=h (k + s) s
 have h6:=h s (l + s)
 rw [Aq,A3]
 show _=nv n (lv c (s + 1)) k l * (c (k + s) s * c s (l + s)) * _ / _
 generalize nv n (lv c (s + 1)) k l=w
 generalize nuA c s (k + 1)=x1 at h1 ⊢
 generalize nuB c s (l + 1)=x2 at h2 ⊢
 generalize c (k + 1 + s) s=x3 at h3 ⊢
 generalize c s (l + 1 + s)=x4 at h4 ⊢
 generalize c (k + s) s=x5 at h5 ⊢
 generalize c s (l + s)=x6 at h6 ⊢
 grind
noncomputable def iD (f:Nat->Int):Nat->Int
 | 0=>1
 | n + 1=>iD f n * f n
theorem oZ {f:Nat->Int}:∀ {n t:Nat},t < n->∃ q,iD f n=f t * q
 | n + 1,t,h=>by
   by_cases e:t=n
   · subst e
     exact ⟨iD f t,Int.mul_comm ..⟩
   · obtain ⟨q,hq⟩:=oZ (f:=f) (n:=n) (t:=t) (by omega)
     exact ⟨q * f n,by rw [iD,hq,Int.mul_assoc]⟩
theorem kI {f:Nat->Int}:∀ {n t:Nat},t + 1 < n->∃ q,iD f n=f t * f (t + 1) * q
 | n + 1,t,h=>by
   by_cases e:t + 1=n
   · subst e
     exact ⟨iD f t,by rw [iD,iD,Int.mul_assoc,Int.mul_comm]⟩
   · obtain ⟨q,hq⟩:=kI (f:=f) (n:=n) (t:=t) (by omega)
     exact ⟨q * f n,by rw [iD,hq,Int.mul_assoc]⟩
theorem ng {f:Nat->Int}:∀ {n:Nat},(∀ t < n,f t ≠ 0)->iD f n ≠ 0
 | 0,_=>(by decide:(1:Int) ≠ 0)
 | n + 1,h=>Int.mul_ne_zero (ng λt ht=>h t (by omega)) (h n (by omega))
theorem mF {f:Nat->Int} {b:Nat}:∀ {n:Nat},(∀ t < n,(f t).natAbs<=2 ^ b)->(iD f n).natAbs<=2 ^ (b * n)
 | 0,_=>by show 1<=_; exact Nat.one_le_two_pow
 | n + 1,h=>by
   rw [iD,Nat.mul_succ]
   exact gj (mF λt ht=>h t (by omega)) (h n (by omega))
theorem j2 {p f q:Int} (h:p=f * q) (h0:f ≠ 0):q.natAbs<=p.natAbs:=by
 rw [h,Int.natAbs_mul]
 exact Nat.le_mul_of_pos_left _ (by omega)
structure Cn (R C b:Nat) (e:Int) (c:Nat->Nat->Rat) (f:Nat->Nat->Int):Prop where
 ne:∀ i j,c i j ≠ 0
 e0:0 < e
 e1:e.natAbs<=2 ^ b
 eq:∀ i,i < R->∀ j,j < C->((f i j:Int):Rat)=c i j * (e:Rat)
 bd:∀ i,i < R->∀ j,j < C->(f i j).natAbs<=2 ^ b
 r7:R<=7
 c7:C<=7
section
variable {R C b:Nat} {e:Int} {c:Nat->Nat->Rat} {f:Nat->Nat->Int}
theorem Cn.fne (h:Cn R C b e c f) {i j:Nat} (hi:i < R) (hj:j < C):f i j ≠ 0:=λz=>by
 have q:=h.eq i hi j hj
 rw [z] at q
 rcases Rat.mul_eq_zero.mp (show c i j * (e:Rat)=0 from q.symm) with y | y
 · exact h.ne i j y
 · exact qH h.e0 y
noncomputable def wY (e:Int) (f:Nat->Nat->Int):Nat->Nat->Int
 | 0,_=>e
 | s + 1,i=>f (i + s) s
noncomputable def AJ (e:Int) (f:Nat->Nat->Int):Nat->Nat->Int
 | 0,_=>e
 | s + 1,j=>f s (j + s)
theorem Cn.fa (h:Cn R C b e c f):∀ {s i:Nat},i + s < R + 1->s<=C->((wY e f s i:Int):Rat)=nuA c s i * (e:Rat)/\(wY e f s i).natAbs<=2 ^ b
 | 0,i,_,_=>⟨(Rat.one_mul _).symm,h.e1⟩
 | s + 1,i,h1,h2=>⟨h.eq _ (by omega) _ (by omega),h.bd _ (by omega) _ (by omega)⟩
theorem Cn.fb (h:Cn R C b e c f):∀ {s i:Nat},i + s < C + 1->s<=R->((AJ e f s i:Int):Rat)=nuB c s i * (e:Rat)/\(AJ e f s i).natAbs<=2 ^ b
 | 0,i,_,_=>⟨(Rat.one_mul _).symm,h.e1⟩
 | s + 1,i,h1,h2=>⟨h.eq _ (by omega) _ (by omega),h.bd _ (by omega) _ (by omega)⟩
noncomputable def nuC (R:Nat) (f:Nat->Nat->Int) (s:Nat):Int:=iD (λt=>f (t + s) s) (R - s)
noncomputable def nuR (C:Nat) (f:Nat->Nat->Int) (s:Nat):Int:=iD (λt=>f s (t + s)) (C - s)
noncomputable def nuN (R C:Nat) (f:Nat->Nat->Int):Nat->Nat->Int
 | 0,_=>1
 | n + 1,s=>nuN R C f n (s + 1) * (nuC R f s * nuR C f s)
noncomputable def nuM (R C b:Nat):Nat->Nat->Nat
 | 0,_=>0
 | n + 1,s=>nuM R C b n (s + 1) + (4 * b + (b * (R - s) + b * (C - s)) + 7)
noncomputable def nuD (R C b:Nat):Nat->Nat->Nat
 | 0,_=>0
 | n + 1,s=>nuD R C b n (s + 1) + (b * (R - s) + b * (C - s))
theorem tV:∀ n s,nuD R C b n s<=nuM R C b n s
 | 0,_=>Nat.le_refl _
 | n + 1,s=>by have:=tV n (s + 1); unfold nuD nuM; omega
theorem Cn.cr (h:Cn R C b e c f) {s:Nat} (h1:s < R) (h2:s < C):nuC R f s ≠ 0/\(nuC R f s).natAbs<=2 ^ (b * (R - s))/\nuR C f s ≠ 0/\(nuR C f s).natAbs<=2 ^ (b * (C - s)):=
 ⟨ng λt ht=>h.fne (by omega) h2,mF λt ht=>h.bd _ (by omega) _ h2,ng λt ht=>h.fne h1 (by omega),mF λt ht=>h.bd _ h1 _ (by omega)⟩
theorem Cn.nn (h:Cn R C b e c f):∀ {n s:Nat},s + n<=R->s + n<=C->nuN R C f n s ≠ 0/\(nuN R C f n s).natAbs<=2 ^ nuD R C b n s
 | 0,_,_,_=>⟨(by decide:(1:Int) ≠ 0),Nat.le_refl _⟩
 | n + 1,s,h1,h2=>by
   obtain ⟨q1,q2⟩:=h.nn (n:=n) (s:=s + 1) (by omega) (by omega)
   obtain ⟨c1,c2,c3,c4⟩:=h.cr (s:=s) (by omega) (by omega)
   exact ⟨Int.mul_ne_zero q1 (Int.mul_ne_zero c1 c3),gj q2 (gj c2 c4)⟩
theorem fq {z:Int} {b:Nat} (h:z.natAbs<=2 ^ b):ZB b (z:Rat):=⟨z,rfl,h⟩
theorem ZB.plus {m n:Nat} {x y:Rat} (h:ZB m x) (g:ZB n y) (hm:m<=n):ZB (n + 1) (x + y):=by
 obtain ⟨a,rfl,h⟩:=h
 obtain ⟨d,rfl,g⟩:=g
 refine ⟨a + d,(Rat.intCast_add ..).symm,?_⟩
 have:(2:Nat) ^ m<=2 ^ n:=Nat.pow_le_pow_right (by decide) hm
 rw [Nat.pow_succ]
 omega
theorem ZB.BI {b:Nat} {g:Nat->Rat} {n:Nat} (hn:n<=8) (h:∀ i < n,ZB b (g i)):ZB (b + 3) (ay g n):=by
 obtain ⟨z,e,hz⟩:=ZB.sum h
 refine ⟨z,e,Nat.le_trans hz ?_⟩
 rw [Nat.pow_add,Nat.mul_comm]
 exact Nat.mul_le_mul_left _ hn
theorem Cn.zb (h:Cn R C b e c f):∀ (n s:Nat),s + n=min R C->∀ i j,i + s < R->j + s < C->ZB (nuM R C b n s) (nu n c s i j * (((e * e:Int):Rat) * ((nuN R C f n s:Int):Rat)))
 | 0,s,hs,i,j,hi,hj=>absurd hs (by omega)
 | n + 1,s,hs,i,j,hi,hj=>by
   have ih:=h.zb n (s + 1) (by omega)
   obtain ⟨n1,n2⟩:=h.nn (n:=n) (s:=s + 1) (by omega) (by omega)
   obtain ⟨c1,c2,c3,c4⟩:=h.cr (s:=s) (by omega) (by omega)
   have x1:=h.eq (i + s) hi s (by omega)
   have x2:=h.bd (i + s) hi s (by omega)
   have y1:=h.eq s (by omega) (j + s) hj
   have y2:=h.bd s (by omega) (j + s) hj
   have dl:=tV (R:=R) (C:=C) (b:=b) n (s + 1)
   rw [xM h.ne,Rat.add_mul,ie]
   show ZB (nuM R C b n (s + 1) + (4 * b + (b * (R - s) + b * (C - s)) + 7)) (_ * (((e * e:Int):Rat) * ((nuN R C f n (s + 1) * (nuC R f s * nuR C f s):Int):Rat)) + _)
   have first:ZB (nuM R C b n (s + 1) + (4 * b + (b * (R - s) + b * (C - s)))) (c (i + s) s * c s (j + s) * (nuA c s 0 / c s s) * (((e * e:Int):Rat) * ((nuN R C f n (s + 1) * (nuC R f s * nuR C f s):Int):Rat))):=by
     obtain ⟨q,hq⟩:=oZ (f:=λt=>f (t + s) s) (n:=R - s) (t:=0) (by omega)
     have hq:nuC R f s=f s s * q:=by
       have:nuC R f s=f (0 + s) s * q:=hq
       rwa [Nat.zero_add] at this
     have f0:=h.fne (i:=s) (j:=s) (by omega) (by omega)
     have q2:=Nat.le_trans (j2 hq f0) c2
     obtain ⟨a1,a2⟩:=h.fa (s:=s) (i:=0) (by omega) (by omega)
     have d1:=h.eq s (by omega) s (by omega)
     have z:=(((fq x2).mul (fq y2)).mul (fq a2)).mul ((fq n2).mul ((fq q2).mul (fq c4)))
     have e1:c (i + s) s * c s (j + s) * (nuA c s 0 / c s s) * (((e * e:Int):Rat) * ((nuN R C f n (s + 1) * (nuC R f s * nuR C f s):Int):Rat))=((f (i + s) s:Int):Rat) * ((f s (j + s):Int):Rat) * ((wY e f s 0:Int):Rat) * (((nuN R C f n (s + 1):Int):Rat) * ((q:Rat) * ((nuR C f s:Int):Rat))):=by
       rw [hq,x1,y1,a1]
       simp only [Rat.intCast_mul]
       rw [d1]
       have cn:nuA c s 0 / c s s * c s s=nuA c s 0:=Rat.div_mul_cancel (h.ne s s)
       generalize nuA c s 0 / c s s=w at cn ⊢
       rw [<- cn]
       generalize c s s=g1
       generalize c (i + s) s=g2
       generalize c s (j + s)=g3
       grind
     rw [e1]
     exact z.mono (by omega)
   have rest:∀ k < i,∀ l < j,ZB (nuM R C b n (s + 1) + (4 * b + (b * (R - s) + b * (C - s)))) (c (i + s) s * c s (j + s) * (nu n c (s + 1) k l * (nuA c s (k + 1) * nuB c s (l + 1)) / (c (k + s) s * c (k + 1 + s) s * (c s (l + s) * c s (l + 1 + s)))) * (((e * e:Int):Rat) * ((nuN R C f n (s + 1) * (nuC R f s * nuR C f s):Int):Rat))):=λk hk l hl=>by
     obtain ⟨q,hq⟩:=kI (f:=λt=>f (t + s) s) (n:=R - s) (t:=k) (by omega)
     obtain ⟨r,hr⟩:=kI (f:=λt=>f s (t + s)) (n:=C - s) (t:=l) (by omega)
     have hq:nuC R f s=f (k + s) s * f (k + 1 + s) s * q:=hq
     have hr:nuR C f s=f s (l + s) * f s (l + 1 + s) * r:=hr
     have q2:=Nat.le_trans (j2 hq (Int.mul_ne_zero (h.fne (i:=k + s) (j:=s) (by omega) (by omega)) (h.fne (i:=k + 1 + s) (j:=s) (by omega) (by omega)))) c2
     have r2:=Nat.le_trans (j2 hr (Int.mul_ne_zero (h.fne (i:=s) (j:=l + s) (by omega) (by omega)) (h.fne (i:=s) (j:=l + 1 + s) (by omega) (by omega)))) c4
     obtain ⟨a1,a2⟩:=h.fa (s:=s) (i:=k + 1) (by omega) (by omega)
     obtain ⟨b1,b2⟩:=h.fb (s:=s) (i:=l + 1) (by omega) (by omega)
     have u:=ih k l (by omega) (by omega)
     have z:=u.mul ((((fq x2).mul (fq y2)).mul ((fq a2).mul (fq b2))).mul ((fq q2).mul (fq r2)))
     have e1:c (i + s) s * c s (j + s) * (nu n c (s + 1) k l * (nuA c s (k + 1) * nuB c s (l + 1)) / (c (k + s) s * c (k + 1 + s) s * (c s (l + s) * c s (l + 1 + s)))) * (((e * e:Int):Rat) * ((nuN R C f n (s + 1) * (nuC R f s * nuR C f s):Int):Rat))=nu n c (s + 1) k l * (((e * e:Int):Rat) * ((nuN R C f n (s + 1):Int):Rat)) * (((f (i + s) s:Int):Rat) * ((f s (j + s):Int):Rat) * (((wY e f s (k + 1):Int):Rat) * ((AJ e f s (l + 1):Int):Rat)) * ((q:Rat) * (r:Rat))):=by
       rw [hq,hr,x1,y1,a1,b1]
       simp only [Rat.intCast_mul]
       rw [h.eq (k + s) (by omega) s (by omega),h.eq (k + 1 + s) (by omega) s (by omega),h.eq s (by omega) (l + s) (by omega),h.eq s (by omega) (l + 1 + s) (by omega)]
       have h5:=h.ne (k + s) s
       have h6:=h.ne (k + 1 + s) s
       have h7:=h.ne s (l + s)
       have h8:=h.ne s (l + 1 + s)
       generalize nu n c (s + 1) k l=w
       generalize nuA c s (k + 1)=g1
       generalize nuB c s (l + 1)=g2
       generalize c (i + s) s=g3
       generalize c s (j + s)=g4
       generalize c (k + s) s=g5 at h5 ⊢
       generalize c (k + 1 + s) s=g6 at h6 ⊢
       generalize c s (l + s)=g7 at h7 ⊢
       generalize c s (l + 1 + s)=g8 at h8 ⊢
       have cn:w * (g1 * g2) / (g5 * g6 * (g7 * g8)) * (g5 * g6 * (g7 * g8))=w * (g1 * g2):=Rat.div_mul_cancel λz=>by
         rcases Rat.mul_eq_zero.mp z with z | z
         · rcases Rat.mul_eq_zero.mp z with z | z
           · exact h5 z
           · exact h6 z
         · rcases Rat.mul_eq_zero.mp z with z | z
           · exact h7 z
           · exact h8 z
       generalize w * (g1 * g2) / (g5 * g6 * (g7 * g8))=t at cn ⊢
       generalize ((nuN R C f n (s + 1):Int):Rat)=nn
       generalize (q:Rat)=qq
       generalize (r:Rat)=rr
       generalize (e:Rat)=ee
       grind
     rw [e1]
     exact z.mono (by omega)
   have sums:=ZB.BI (n:=i) (by have:=h.r7; omega) λk hk=>by
     have:=ZB.BI (n:=j) (by have:=h.c7; omega) λl hl=>rest k hk l hl
     rw [<- ie] at this
     exact this
   exact (first.plus sums (by omega)).mono (by omega)
end
section
variable {P:Program} {w:World} {K:PySem.W.Frag} {mg:Str->Option Value} {base:Heap} {k:Nat} {f:Addr} {fd:FuncData} {qual:Str}
end
noncomputable def qM (M:List (List Rat)) (i j:Nat):Rat:=(M.getD i []).getD j 0
theorem rN {z D:Int} {q:Rat} (hD:0 < D) (h:(z:Rat)=q * (D:Rat)):((q.den:Nat):Int) ∣ D:=by
 have e:=(cO hD h).2
 exact ⟨(Int.gcd z D:Int),by rw [e,Int.ediv_mul_cancel (Int.gcd_dvd_right ..)]⟩
theorem xB {s D:Int} (hs:0 < s) {q:Rat} (h1:s ∣ D) (h2:((q.den:Nat):Int) ∣ D):scS s q ∣ D:=by
 have e:scS s q=((Nat.lcm s.natAbs q.den:Nat):Int):=by
   rw [<- yt hs q]
   unfold Nat.lcm
   rw [Int.natCast_ediv,Int.natCast_mul,Int.natAbs_of_nonneg (by omega)]
   rfl
 rw [e]
 refine Int.ofNat_dvd_left.mpr (Nat.lcm_dvd (Int.natAbs_dvd_natAbs.mpr h1) (Int.ofNat_dvd_left.mp h2))
theorem qR {D:Int}:∀ (r:List Rat) (s:Int),0 < s->s ∣ D->(∀ q ∈ r,((q.den:Nat):Int) ∣ D)->r.foldl scS s ∣ D
 | [],_,_,h,_=>h
 | q :: r,s,hs,h,hr=>qR r (scS s q) (uf hs q).1 (xB hs h (hr q (List.mem_cons_self ..))) λx hx=>hr x (List.mem_cons_of_mem _ hx)
theorem rM {D:Int} {r:List Rat} (hr:∀ q ∈ r,((q.den:Nat):Int) ∣ D):scL r ∣ D:=qR r 1 (by decide) (Int.one_dvd _) hr
noncomputable def cnS (i j:Nat):Nat:=min i j + 1
noncomputable def cnM {α:Type} (M:List (List α)) (i j:Nat):List (List α):=((M.take (i + 1)).drop (i + 1 - cnS i j)).map λr=>(r.take (j + 1)).drop (j + 1 - cnS i j)
noncomputable def coQ (M:List (List Rat)) (i j:Nat):Rat:=sld (qM M) (i + 1 - cnS i j) (j + 1 - cnS i j) (cnS i j)
theorem vC {R C i j:Nat} {M:List (List Rat)} (t:Tq R C M) (hi:i < R) (hj:j < C):Tq (cnS i j) (cnS i j) (cnM M i j):=by
 have h1:=t.r7
 have h2:=t.c7
 have hs:cnS i j<=i + 1/\cnS i j<=j + 1/\1<=cnS i j:=by unfold cnS; omega
 refine ⟨hs.2.2,by omega,hs.2.2,by omega,?_,λr hr=>?_⟩
 · unfold cnM
   rw [List.length_map,List.length_drop,List.length_take,t.len]
   omega
 · unfold cnM at hr
   obtain ⟨q,hq,rfl⟩:=List.mem_map.mp hr
   have:=t.row q (List.mem_of_mem_take (List.mem_of_mem_drop hq))
   rw [List.length_drop,List.length_take,this]
   omega
theorem vD {R C i j:Nat} {M:List (List Rat)} (t:Tq R C M) (hi:i < R) (hj:j < C):det (cnS i j) (qM (cnM M i j))=coQ M i j:=by
 have hs:cnS i j<=i + 1/\cnS i j<=j + 1/\1<=cnS i j:=by unfold cnS; omega
 have hl:=t.len
 unfold coQ sld mi
 refine aE λr hr c hc=>?_
 have er:i + 1 - cnS i j + r < M.length:=by omega
 have e1:(cnM M i j).getD r []=((M.getD (i + 1 - cnS i j + r) []).take (j + 1)).drop (j + 1 - cnS i j):=by
   unfold cnM
   simp only [List.getD_eq_getElem?_getD,List.getElem?_map,List.getElem?_drop,List.getElem?_take]
   rw [if_pos (by omega),List.getElem?_eq_getElem er]
   rfl
 unfold qM
 rw [e1]
 simp only [List.getD_eq_getElem?_getD,List.getElem?_drop,List.getElem?_take]
 rw [if_pos (by omega)]
noncomputable def Rb (d m:Nat) (r:List Rat):Prop:=∃ D:Int,0 < D/\D.natAbs<=2 ^ d/\∀ q ∈ r,∃ z:Int,(z:Rat)=q * (D:Rat)/\z.natAbs<=2 ^ m
theorem Rb.Bo {C d m:Nat} {g:Nat->Rat} (h:Cq C d m g):Rb d m ((List.range C).map g):=by
 obtain ⟨D,h0,h1,h2⟩:=h
 refine ⟨D,h0,h1,λq hq=>?_⟩
 obtain ⟨a,ha,rfl⟩:=List.mem_map.mp hq
 exact h2 a (List.mem_range.mp ha)
theorem Rb.sub {d m:Nat} {r s:List Rat} (h:Rb d m r) (g:∀ q ∈ s,q ∈ r):Rb d m s:=by
 obtain ⟨D,h0,h1,h2⟩:=h
 exact ⟨D,h0,h1,λq hq=>h2 q (g q hq)⟩
theorem Rb.qs {d m:Nat} {r:List Rat} (h:Rb d m r):∀ q ∈ r,Qs (d + 1) m q:=λq hq=>by
 obtain ⟨D,h0,h1,h2⟩:=h
 obtain ⟨z,hz,h3⟩:=h2 q hq
 refine Qs.of h0 hz ?_ h3
 unfold Bd
 rw [Nat.pow_succ]
 have:=Nat.two_pow_pos d
 omega
theorem Rb.sc {d m:Nat} {r:List Rat} (h:Rb d m r):(scL r).natAbs<=2 ^ d:=by
 obtain ⟨D,h0,h1,h2⟩:=h
 have dv:scL r ∣ D:=rM λq hq=>by
   obtain ⟨z,hz,_⟩:=h2 q hq
   exact rN h0 hz
 exact Nat.le_trans (Nat.le_of_dvd (by omega) (Int.natAbs_dvd_natAbs.mpr dv)) h1
theorem Rb.wh {d m:Nat} {r:List Rat} (h:Rb d m r):∀ x ∈ whR r (scL r),x.natAbs<=2 ^ m:=λx hx=>by
 unfold whR at hx
 obtain ⟨q,hq,rfl⟩:=List.mem_map.mp hx
 obtain ⟨D,d0,d1,gg⟩:=h
 have dv:scL r ∣ D:=rM λy hy=>by
   obtain ⟨z,hz,_⟩:=gg y hy
   exact rN d0 hz
 have so:=jg r
 have wq:=yV (so.2 q hq)
 obtain ⟨z,hz,z1⟩:=gg q hq
 generalize scL r=s at dv so wq ⊢
 generalize q.num * (s / (q.den:Nat))=y at wq ⊢
 obtain ⟨t,rfl⟩:=dv
 have ez:z=y * t:=by
   have:(z:Rat)=((y * t:Int):Rat):=by rw [hz,Rat.intCast_mul,Rat.intCast_mul,wq,Rat.mul_assoc]
   exact Rat.intCast_inj.mp this
 have t0:t ≠ 0:=λz=>by rw [z,Int.mul_zero] at d0; exact absurd d0 (by decide)
 rw [ez,Int.natAbs_mul] at z1
 exact Nat.le_trans (Nat.le_mul_of_pos_right _ (by omega)) z1
theorem yn {d m i j:Nat} {M:List (List Rat)} (hq:∀ r ∈ M,Rb d m r):∀ r ∈ cnM M i j,Rb d m r:=λr hr=>by
 unfold cnM at hr
 obtain ⟨q,hq',rfl⟩:=List.mem_map.mp hr
 exact (hq q (List.mem_of_mem_take (List.mem_of_mem_drop hq'))).sub λx hx=>List.mem_of_mem_take (List.mem_of_mem_drop hx)
section
variable {P:Program} {w:World} {K:PySem.W.Frag} {mg:Str->Option Value} {base:Heap} {k:Nat} {f:Addr} {fd:FuncData} {qual:Str}
end
theorem mq (ns:List Int):∀ t,t<=ns.length->((prZ (ns.take t):Int):Rat)=dh (λi=>((ns.getD i 0:Int):Rat)) t
 | 0,_=>rfl
 | t + 1,h=>by
   have et:ns.take (t + 1)=ns.take t++[ns.getD t 0]:=by rw [List.take_succ,List.getElem?_eq_getElem (by omega)]; simp [show t < ns.length by omega]
   rw [et,iB,Rat.intCast_mul,mq ns t (by omega),dh]
theorem vg {M:List (List Rat)} {ss:List Int} {i j:Nat} (hi:i < M.length) (hj:j < (M.getD i []).length):((whM M ss).getD i []).getD j 0=((M.getD i []).getD j 0).num * (ss.getD i 0 / (((M.getD i []).getD j 0).den:Nat)):=by
 have e:(whM M ss).getD i []=whR (M.getD i []) (ss.getD i 0):=by unfold whM; simp [hi]
 rw [e]
 unfold whR
 rw [List.getD_eq_getElem?_getD,List.getElem?_map,List.getElem?_eq_getElem hj,List.getD_eq_getElem?_getD (l:=M.getD i []),List.getElem?_eq_getElem hj]
 rfl
theorem BY {R d m:Nat} {M:List (List Rat)} (t:Tq R R M) (hq:∀ r ∈ M,Rb d m r) (z:R * (d + 1)<=8990):(whM M (M.map scL)).length=R/\(∀ r ∈ whM M (M.map scL),r.length=R/\∀ x ∈ r,x.natAbs<=2 ^ m)/\0 < prZ (M.map scL)/\Bd 8999 (prZ (M.map scL))/\((wdZ (whM M (M.map scL)):Int):Rat)=det R (qM M) * ((prZ (M.map scL):Int):Rat):=by
 have l1:(whM M (M.map scL)).length=R:=by unfold whM; simp [t.len]
 have sc:∀ i,i < R->(M.map scL).getD i 0=scL (M.getD i []):=λi hi=>by simp [show i < M.length by rw [t.len]; exact hi]
 have rowm:∀ r ∈ whM M (M.map scL),r.length=R/\∀ x ∈ r,x.natAbs<=2 ^ m:=λr hr=>by
   unfold whM at hr
   obtain ⟨i,hi,rfl⟩:=List.mem_map.mp hr
   rw [List.mem_range,t.len] at hi
   have mi:M.getD i [] ∈ M:=bj (by rw [t.len]; exact hi)
   refine ⟨by unfold whR; rw [List.length_map]; exact t.at_ hi,λx hx=>?_⟩
   rw [sc i hi] at hx
   exact (hq _ mi).wh x hx
 have bs:∀ s ∈ M.map scL,0 < s/\Bd (d + 1) s:=λs hs=>by
   obtain ⟨r,hr,rfl⟩:=List.mem_map.mp hs
   refine ⟨(jg r).1,?_⟩
   have:=(hq r hr).sc
   unfold Bd
   rw [Nat.pow_succ]
   have:=Nat.two_pow_pos d
   omega
 have bp:=kz (d:=d + 1) (r:=M.map scL) λs hs=>(bs s hs).2
 rw [List.length_map,t.len] at bp
 refine ⟨l1,rowm,xl λs hs=>(bs s hs).1,bp.mono (by omega),?_⟩
 have zb:∀ i < R,∀ j < R,ZB m (dtM (whM M (M.map scL)) i j):=λi hi j hj=>by
   have mi:=bj (xs:=whM M (M.map scL)) (d:=[]) (i:=i) (by rw [l1]; exact hi)
   exact ⟨_,rfl,(rowm _ mi).2 _ (bj (by rw [(rowm _ mi).1]; exact hj))⟩
 obtain ⟨w,e1,_⟩:=tL (n:=R) (by have:=t.r7; omega) zb
 have e2:wdZ (whM M (M.map scL))=w:=uh (by rw [l1,e1])
 rw [e2,<- e1]
 have pr:=mq (M.map scL) R (by rw [List.length_map,t.len]; exact Nat.le_refl _)
 rw [List.take_of_length_le (by rw [List.length_map,t.len]; exact Nat.le_refl _)] at pr
 rw [pr,Rat.mul_comm,<- iU (n:=R) _ (qM M) R (Nat.le_refl _)]
 refine aE λi hi j hj=>?_
 rw [if_pos hi]
 have hj':j < (M.getD i []).length:=by rw [t.at_ hi]; exact hj
 unfold dtM
 rw [vg (by rw [t.len]; exact hi) hj',sc i hi,yV ((jg _).2 _ (bj hj')),Rat.mul_comm]
 rfl
noncomputable def bx (ds:List D) (r:Sl):Prop:=∃ (R d m:Nat) (M:List (List Rat)),ds=[tbQ M]/\Tq R R M/\(∀ r ∈ M,Rb d m r)/\R * (m + 3)<=8800/\R * (d + 1)<=8990/\m + d<=8900/\r=.d (frD (det R (qM M)))
section
variable {P:Program} {w:World} {K:PySem.W.Frag} {mg:Str->Option Value} {base:Heap} {k:Nat} {f:Addr} {fd:FuncData} {qual:Str}
theorem ft (F:Fun K "square_determinant" qual (top 39) f fd) (hb:∀ x ∈ aj,mg x=none) (c_look_square:Cal P w K mg base k "look_square" dQ) (c_fraction:Cal P w K mg base k "fraction" gK) (c_scale_of:Cal P w K mg base k "scale_of" gS) (c_whole_determinant:Cal P w K mg base k "whole_determinant" bV) (c_product_of_all:Cal P w K mg base k "product_of_all" cy) (c_whole_rows:Cal P w K mg base k "whole_rows" eV):aN P w K mg base CX0 (k + 1) f fd ["table"] (spD K bx):=by
 refine fnD F cx hb (by rintro _ _ ⟨_,_,_,_,rfl,_⟩; rfl) ?_
 rintro _ _ ⟨R,d,v,M,rfl,t,hq,z1,z2,z3,rfl⟩ cdv A outer s H E b
 have nd:=cx.nd
 have r7:=t.r7
 have r1:=t.r1
 obtain ⟨o1,o2,o3,o4,o5⟩:=BY t hq z2
 have d9:d + 1<=8990:=Nat.le_trans (Nat.le_mul_of_pos_left _ r1) z2
 have bs:∀ s ∈ M.map scL,Bd (d + 1) s:=λs hs=>by
   obtain ⟨r,hr,rfl⟩:=List.mem_map.mp hs
   have:=(hq r hr).sc
   unfold Bd
   rw [Nat.pow_succ]
   have:=Nat.two_pow_pos d
   omega
 refine mW (x_call b c_look_square (ae (aa 0) ag) ⟨R,M,rfl,t,rfl⟩) ?_
 refine pU 1 nd (s:=.d (.lst ((M.map scL).map .int))) (cmp 0 (g:=λi=>rwQ (M.getD i [])) (f:=λi=>.int (scL (M.getD i []))) b (aY (aa 0)) (bW (f:=rwQ) (xs:=M) []) (by rw [List.length_map,t.len]; omega) λi hi s0 H0 fp=>(x_call (b.comp s0 H0 _ fp) c_scale_of (ae (aa 0) ag) ⟨_,d + 1,rfl,?_,?_,?_,?_,rfl⟩)) (.inr ?_) ?_
 · rw [t.at_ (by simpa [t.len] using hi)]; omega
 · exact λx hx=>((hq _ (bj (by simpa using hi))).qs x hx).den
 · rw [t.at_ (by simpa [t.len] using hi)]; omega
 · omega
 · exact congrArg (λl=>Sl.d (D.lst l)) (((gk (λr:List Rat=>D.int (scL r)) M [] (List.length_map ..)).trans (by rw [List.map_map]; rfl)).symm)
 refine aK (x_call b c_fraction (ae (x_call b c_whole_determinant (ae (bu (x_call b c_whole_rows (ae (aa 0) (ae (aa 1) ag)) ⟨M,M.map scL,v + (d + 1),rfl,by rw [List.length_map],by rw [t.len]; omega,λr hr=>⟨by rw [t.row r hr]; omega,λx hx=>((hq r hr).qs x hx).sq⟩,by omega,?_,rfl⟩)) ag) ⟨R,v,_,rfl,o1,r7,o2,by omega,rfl⟩) (ae (x_call b c_product_of_all (ae (aa 1) ag) ⟨M.map scL,d + 1,rfl,?_,?_,?_,rfl⟩) ag)) ⟨_,_,det R (qM M),rfl,Int.ne_of_gt o3,o4,o5,rfl⟩) rfl
 · exact λs hs=>(bs s hs).mono (by omega)
 · exact bs
 · rw [List.length_map,t.len]; omega
 · omega
end
noncomputable def cG (ds:List D) (r:Sl):Prop:=∃ (R C i j:Nat) (M:List (List Rat)),ds=[tbQ M,.int (i:Nat),.int (j:Nat)]/\Tq R C M/\i < R/\j < C/\r=.o ((cnM M i j).map rwQ)
theorem uD (i j:Nat):(if ((j:Nat):Int) < (i:Nat) then ((j:Nat):Int) else (i:Nat)) + 1=((cnS i j:Nat):Int):=by
 unfold cnS
 split <;> omega
theorem mj {α:Type} {f:α->D} (xs:List α) {i s:Nat} (h:s<=i + 1):Hy.cutD (xs.map f) (some ((i:Int) + 1 - (s:Nat))) (some ((i:Int) + 1))=((xs.take (i + 1)).drop (i + 1 - s)).map f:=by
 rw [show (i:Int) + 1 - (s:Nat)=((i + 1 - s:Nat):Int) by omega,show (i:Int) + 1=((i + 1:Nat):Int) by omega,Hy.wA,List.map_drop,List.map_take]
noncomputable def cB (ds:List D) (r:Sl):Prop:=∃ (R C d v i:Nat) (M:List (List Rat)),ds=[tbQ M,.int (i:Nat)]/\Tq R C M/\(∀ r ∈ M,Rb d v r)/\(∀ n,n<=R->n<=C->n * (v + 3)<=8800/\n * (d + 1)<=8990)/\v + d<=8900/\i < R/\r=.o (((List.range C).map (coQ M i)).map frD)
noncomputable def i4 (ds:List D) (r:Sl):Prop:=∃ (R C d v:Nat) (M:List (List Rat)),ds=[tbQ M]/\Tq R C M/\(∀ r ∈ M,Rb d v r)/\(∀ n,n<=R->n<=C->n * (v + 3)<=8800/\n * (d + 1)<=8990)/\v + d<=8900/\r=.o (((List.range R).map λi=>(List.range C).map (coQ M i)).map rwQ)
section
variable {P:Program} {w:World} {K:PySem.W.Frag} {mg:Str->Option Value} {base:Heap} {k:Nat} {f:Addr} {fd:FuncData} {qual:Str}
theorem kh (F:Fun K "corner_part" qual (top 51) f fd) (hb:∀ x ∈ aj,mg x=none):aN P w K mg base CX0 (k + 1) f fd ["table","i","j"] (spD K cG):=by
 refine fnD F gh hb (by rintro _ _ ⟨_,_,_,_,_,rfl,_⟩; rfl) ?_
 rintro _ _ ⟨R,C,i,j,M,rfl,t,hi,hj,rfl⟩ cdv A outer s H E b
 have nd:=gh.nd
 have hs:cnS i j<=i + 1/\cnS i j<=j + 1/\1<=cnS i j:=by unfold cnS; omega
 refine aA 3 nd (aw (bh b (ae (aa 1) (ae (aa 2) ag)) (oy b.calm)) af bB) ?_
 rw [uD]
 have t2:=vC t hi hj
 have ln:((M.take (i + 1)).drop (i + 1 - cnS i j)).length=cnS i j:=by
   have:=t2.len
   unfold cnM at this
   rwa [List.length_map] at this
 refine aK (eZ (cmp 0 (g:=λl=>rwQ (((M.take (i + 1)).drop (i + 1 - cnS i j)).getD l [])) (f:=λl=>rwQ ((((((M.take (i + 1)).drop (i + 1 - cnS i j)).getD l []).take (j + 1)).drop (j + 1 - cnS i j)))) b (aY (bu (x:=.lst (((M.take (i + 1)).drop (i + 1 - cnS i j)).map rwQ)) (tT (aa 0) (dN (aw (aw (aa 1) af bB) (aa 3) cY)) (dN (aw (aa 1) af bB))) (congrArg (λl=>some (D.lst l)) (mj M hs.1)))) (bW (f:=rwQ) []) (by rw [List.length_map,ln]; have:=t2.r7; omega) λl hl s0 H0 fp=>?_)) ?_
 · exact bu (tT (aa 0) (dN (aw (aw (aa 1) af bB) (aa 2) cY)) (dN (aw (aa 1) af bB))) (congrArg (λl=>some (D.lst l)) (mj _ hs.2.1))
 · refine congrArg Sl.o ((gk (λr:List Rat=>rwQ ((r.take (j + 1)).drop (j + 1 - cnS i j))) ((M.take (i + 1)).drop (i + 1 - cnS i j)) [] (List.length_map ..)).trans ?_)
   unfold cnM
   rw [List.map_map]
   rfl
theorem iG (F:Fun K "corners_in_row" qual (top 50) f fd) (hb:∀ x ∈ aj,mg x=none) (c_square_determinant:Cal P w K mg base k "square_determinant" bx) (c_corner_part:Cal P w K mg base k "corner_part" cG):aN P w K mg base CX0 (k + 1) f fd ["table","i"] (spD K cB):=by
 refine fnD F iK hb (by rintro _ _ ⟨_,_,_,_,_,_,rfl,_⟩; rfl) ?_
 rintro _ _ ⟨R,C,d,v,i,M,rfl,t,hq,bz,vd,hi,rfl⟩ cdv A outer s H E b
 have r1:=t.r1
 have c7:=t.c7
 have e0:atI (M.map rwQ) 0=some (rwQ (M.getD 0 [])):=dF [] (i:=0) (by rw [t.len]; omega)
 refine aK (eZ (cmp 0 (f:=λj=>frD (coQ M i j)) b (fJ b (bh b (ae (aL (aa 0) af (aP e0)) ag) (cN (n:=C) (by rw [List.length_map]; exact t.at_ (by omega)))) (by omega) (by omega)) fo (by rw [aF]; omega) λj hj s0 H0 fp=>?_)) ?_
 · have hj:j < C:=by rw [aF] at hj; omega
   have t2:=vC t hi hj
   refine x_call (b.comp s0 H0 _ fp) c_square_determinant (ae (bu (x:=tbQ (cnM M i j)) (x_call (b.comp s0 H0 _ fp) c_corner_part (ae (aa 2) (ae (aa 1) (ae (aa 0) ag))) ⟨R,C,i,j,M,rfl,t,hi,hj,rfl⟩)) ag) ⟨cnS i j,d,v,cnM M i j,rfl,t2,yn hq,(bz (cnS i j) (by unfold cnS; omega) (by unfold cnS; omega)).1,(bz (cnS i j) (by unfold cnS; omega) (by unfold cnS; omega)).2,vd,by rw [vD t hi hj]⟩
 · rw [aF,Int.toNat_natCast,List.map_map]
   rfl
theorem qN (F:Fun K "corners" qual (top 49) f fd) (hb:∀ x ∈ aj,mg x=none) (c_look_table:Cal P w K mg base k "look_table" cc) (c_corners_in_row:Cal P w K mg base k "corners_in_row" cB):aN P w K mg base CX0 (k + 1) f fd ["table"] (spD K i4):=by
 refine fnD F kN hb (by rintro _ _ ⟨_,_,_,_,_,rfl,_⟩; rfl) ?_
 rintro _ _ ⟨R,C,d,v,M,rfl,t,hq,bz,vd,rfl⟩ cdv A outer s H E b
 have r7:=t.r7
 refine mW (x_call b c_look_table (ae (aa 0) ag) ⟨R,C,M,rfl,t,rfl⟩) ?_
 refine aK (eZ (cmp 0 (f:=λi=>rwQ ((List.range C).map (coQ M i))) b (fJ b (bh b (ae (aa 0) ag) (cN (n:=R) (by rw [List.length_map]; exact t.len))) (by omega) (by omega)) fo (by rw [aF]; omega) λi hi s0 H0 fp=>?_)) ?_
 · have hi:i < R:=by rw [aF] at hi; omega
   exact bu (x_call (b.comp s0 H0 _ fp) c_corners_in_row (ae (aa 1) (ae (aa 0) ag)) ⟨R,C,d,v,i,M,rfl,t,hq,bz,vd,hi,rfl⟩)
 · rw [aF,Int.toNat_natCast,List.map_map]
   rfl
end
theorem wF (m:Nat) (Y:Nat->Nat->Rat):det (m + 1) Y=Y m m * det m Y + det (m + 1) λr c=>if r=m/\c=m then 0 else Y r c:=by
 rw [ku,ku m λr c=>if r=m/\c=m then 0 else Y r c,ay,ay]
 have e1:det m (λr q=>Y r (skp m q))=det m Y:=aE λr _ q hq=>by unfold skp; rw [if_pos hq]
 have e2:sgn (m + m)=1:=by unfold sgn; rw [if_pos (by omega)]
 have e3:ay (λc=>sgn (m + c) * (if m=m/\c=m then 0 else Y m c) * det m λr q=>if r=m/\skp c q=m then 0 else Y r (skp c q)) m=ay (λc=>sgn (m + c) * Y m c * det m λr q=>Y r (skp c q)) m:=au λc hc=>by
   rw [if_neg (by omega)]
   congr 1
   exact aE λr hr q _=>if_neg (by omega)
 rw [e1,e2,e3]
 show _ + 1 * Y m m * det m Y=Y m m * det m Y + (_ + 1 * (if m=m/\m=m then (0:Rat) else Y m m) * _)
 rw [if_pos ⟨rfl,rfl⟩]
 grind
noncomputable def mdK (C:Nat) (Y:Nat->Nat->Rat) (k:Nat):Nat->Nat->Rat:=λx y=>if C * x + y < k then Y x y else 0
theorem CB (C:Nat) (Y:Nat->Nat->Rat):mdK C Y 0=λ_ _=>0:=by
 funext x y
 exact if_neg (by omega)
theorem w9 {R C:Nat} {Y:Nat->Nat->Rat}:mkT R C (mdK C Y (C * R))=mkT R C Y:=ja λi hi j hj=>if_pos (by
 have:C * (i + 1)<=C * R:=Nat.mul_le_mul_left _ hi
 rw [Nat.mul_succ] at this
 omega)
theorem xH {C x y i j:Nat} (hy:y < C) (hj:j < C) (h:C * x + y=C * i + j):x=i/\y=j:=by
 have e1:(C * x + y) / C=x:=by rw [Nat.mul_add_div (by omega),Nat.div_eq_of_lt hy,Nat.add_zero]
 have e2:(C * i + j) / C=i:=by rw [Nat.mul_add_div (by omega),Nat.div_eq_of_lt hj,Nat.add_zero]
 rw [h,e2] at e1
 subst e1
 exact ⟨rfl,by omega⟩
theorem wZ {R C i j:Nat} {Y:Nat->Nat->Rat} (hi:i < R) (hj:j < C):u0 (mkT R C (mdK C Y (C * i + j))) i j (Y i j)=mkT R C (mdK C Y (C * i + (j + 1))):=by
 rw [se hi]
 refine ja λx _ y hy=>?_
 unfold mdK
 by_cases e:x=i/\y=j
 · rw [if_pos e,e.1,e.2,if_pos (by omega)]
 · rw [if_neg e]
   by_cases h:C * x + y < C * i + j
   · rw [if_pos h,if_pos (by omega)]
   · rw [if_neg h,if_neg λz=>e (xH hy hj (by omega))]
theorem xI (R C i:Nat) (Y:Nat->Nat->Rat):mdK C Y (C * i + C)=mdK C Y (C * (i + 1)):=by rw [Nat.mul_succ]
theorem tK {n R C i j:Nat} {c:Nat->Nat->Rat} (h:∀ i j,c i j ≠ 0) (hi:1<=i) (hj:1<=j) (hiR:i < R) (hjC:j < C) (hn:min i j < n):coQ (mkT R C (mdK C (nv n c) (C * i + j))) i j=c i j - nv n c i j * c (i - 1) (j - 1):=by
 have full:=tW h (i:=i) (j:=j) hn
 have less:=tW h (i:=i - 1) (j:=j - 1) (n:=n) (by omega)
 have em:min (i - 1) (j - 1) + 1=min i j:=by omega
 rw [em,show i - 1 + 1 - min i j=i - min i j by omega,show j - 1 + 1 - min i j=j - min i j by omega] at less
 rw [show i + 1 - (min i j + 1)=i - min i j by omega,show j + 1 - (min i j + 1)=j - min i j by omega] at full
 have aff:=wF (min i j) λr y=>nv n c (i - min i j + r) (j - min i j + y)
 have e1:sld (nv n c) (i - min i j) (j - min i j) (min i j + 1)=det (min i j + 1) λr y=>nv n c (i - min i j + r) (j - min i j + y):=rfl
 have e2:sld (nv n c) (i - min i j) (j - min i j) (min i j)=det (min i j) λr y=>nv n c (i - min i j + r) (j - min i j + y):=rfl
 rw [<- e1,<- e2,full,less,show i - min i j + min i j=i by omega,show j - min i j + min i j=j by omega] at aff
 have e3:coQ (mkT R C (mdK C (nv n c) (C * i + j))) i j=det (min i j + 1) λr y=>if r=min i j/\y=min i j then 0 else nv n c (i - min i j + r) (j - min i j + y):=by
   unfold coQ sld mi cnS
   refine aE λr hr y hy=>?_
   unfold qM
   show ((mkT R C (mdK C (nv n c) (C * i + j))).getD (i + 1 - (min i j + 1) + r) []).getD (j + 1 - (min i j + 1) + y) 0=_
   rw [qL (by omega) (by omega),show i + 1 - (min i j + 1)=i - min i j by omega,show j + 1 - (min i j + 1)=j - min i j by omega]
   unfold mdK
   by_cases e:r=min i j/\y=min i j
   · rw [if_pos e,if_neg (by rw [e.1,e.2,show i - min i j + min i j=i by omega,show j - min i j + min i j=j by omega]; omega)]
   · rw [if_neg e,if_pos]
     by_cases q:r=min i j
     · rw [q,show i - min i j + min i j=i by omega]
       omega
     · have:C * (i - min i j + r + 1)<=C * i:=Nat.mul_le_mul_left _ (by omega)
       rw [Nat.mul_succ] at this
       omega
 rw [e3]
 generalize (det (min i j + 1) λr y=>if r=min i j/\y=min i j then 0 else nv n c (i - min i j + r) (j - min i j + y))=w at aff ⊢
 rw [aff]
 grind
theorem t5 {n:Nat} {c:Nat->Nat->Rat} (h:∀ i j,c i j ≠ 0) (hn:1<=n) (i:Nat):nv n c i 0=c i 0:=by
 obtain ⟨m,rfl⟩:∃ m,n=m + 1:=⟨n - 1,by omega⟩
 exact tM h i
theorem lZ {n:Nat} {c:Nat->Nat->Rat} (h:∀ i j,c i j ≠ 0) (hn:1<=n) (j:Nat):nv n c 0 j=c 0 j:=by
 rw [<- yS]
 exact t5 (c:=λx y=>c y x) (λx y=>h y x) hn j
theorem v9 {n R C i j:Nat} {c:Nat->Nat->Rat} (h:∀ i j,c i j ≠ 0) (hi:i < R) (hj:j < C) (hn:min i j < n):coQ (mkT R C (nv n c)) i j=c i j:=by
 rw [<- tW h (i:=i) (j:=j) hn]
 unfold coQ sld mi cnS
 refine aE λr hr y hy=>?_
 unfold qM
 show ((mkT R C (nv n c)).getD (i + 1 - (min i j + 1) + r) []).getD (j + 1 - (min i j + 1) + y) 0=_
 rw [qL (by omega) (by omega)]
theorem Cn.cq {R C b:Nat} {e:Int} {c:Nat->Nat->Rat} {f:Nat->Nat->Int} (h:Cn R C b e c f):∀ i < R,Cq C (b + b + nuD R C b (min R C) 0) (nuM R C b (min R C) 0) (nv (min R C) c i):=λi hi=>by
 obtain ⟨n1,n2⟩:=h.nn (n:=min R C) (s:=0) (by omega) (by omega)
 have e0:=h.e0
 have ee:(e * e).natAbs<=2 ^ (b + b):=gj h.e1 h.e1
 have ep:0 < e * e:=Int.mul_pos e0 e0
 refine ⟨(((e * e * nuN R C f (min R C) 0).natAbs:Nat):Int),?_,?_,λa ha=>?_⟩
 · have:e * e * nuN R C f (min R C) 0 ≠ 0:=Int.mul_ne_zero (by omega) n1
   omega
 · rw [Int.natAbs_natCast]
   exact gj ee n2
 · obtain ⟨z,hz,z1⟩:=h.zb (min R C) 0 (by omega) i a (by omega) (by omega)
   have hz:nv (min R C) c i a * ((e * e * nuN R C f (min R C) 0:Int):Rat)=(z:Rat):=by
     rw [<- hz]
     show _=nv (min R C) c i a * (1 * 1) * _
     rw [Rat.intCast_mul (e * e),Rat.mul_one,Rat.mul_one]
   generalize e * e * nuN R C f (min R C) 0=w at hz ⊢
   rcases Int.natAbs_eq w with q | q
   · exact ⟨z,by rw [<- q,hz],z1⟩
   · refine ⟨-z,?_,by rw [Int.natAbs_neg]; exact z1⟩
     rw [show ((w.natAbs:Nat):Int)=-w by omega,Rat.intCast_neg,Rat.intCast_neg,Rat.mul_neg,hz]
section
variable {P:Program} {w:World} {K:PySem.W.Frag} {mg:Str->Option Value} {base:Heap} {k:Nat} {f:Addr} {fd:FuncData} {qual:Str}
end
noncomputable def sg (x y:Rat):Int:=(Int.gcd (x.den:Nat) (y.den:Nat):Int)
noncomputable def stop (x y:Rat):Int:=x.num * (((y.den:Nat):Int) / sg x y) + y.num * (((x.den:Nat):Int) / sg x y)
noncomputable def sdiv (x y:Rat):Int:=(Int.gcd (stop x y) (sg x y):Int)
theorem Cg {t:Int} {d g:Nat} {h1 h2 h3 h4}:(Rat.maybeNormalize t d g h1 h2 h3 h4).num=t / (g:Int)/\(Rat.maybeNormalize t d g h1 h2 h3 h4).den=d / g:=by
 unfold Rat.maybeNormalize
 split
 · rename_i e
   subst e
   exact ⟨(Int.ediv_one _).symm,(Nat.div_one _).symm⟩
 · exact ⟨rfl,rfl⟩
theorem Ca (x y:Rat):(x + y).num=stop x y / sdiv x y/\(((x + y).den:Nat):Int)=((x.den:Nat):Int) / sg x y * (((y.den:Nat):Int) / sdiv x y):=by
 have hg:sg x y=((x.den.gcd y.den:Nat):Int):=rfl
 show (Rat.add x y).num=_/\(((Rat.add x y).den:Nat):Int)=_
 unfold Rat.add
 by_cases h:x.den.gcd y.den=1
 · simp only [dif_pos h]
   have e1:sg x y=1:=by rw [hg,h]; rfl
   have e2:sdiv x y=1:=by unfold sdiv; rw [e1,Int.gcd_one_right]; rfl
   unfold stop
   rw [e2,e1,Int.ediv_one,Int.ediv_one,Int.ediv_one]
   exact ⟨rfl,Int.natCast_mul _ _⟩
 · simp only [dif_neg h]
   have d:sdiv x y=(((stop x y).natAbs.gcd (x.den.gcd y.den):Nat):Int):=rfl
   have dd:(stop x y).natAbs.gcd (x.den.gcd y.den) ∣ y.den:=Nat.dvd_trans (Nat.gcd_dvd_right _ _) (Nat.gcd_dvd_right _ _)
   refine ⟨Cg.1,?_⟩
   rw [Cg.2,d]
   show ((x.den / x.den.gcd y.den * y.den / (stop x y).natAbs.gcd (x.den.gcd y.den):Nat):Int)=((x.den / x.den.gcd y.den:Nat):Int) * ((y.den / (stop x y).natAbs.gcd (x.den.gcd y.den):Nat):Int)
   rw [Nat.mul_div_assoc _ dd,Int.natCast_mul]
theorem As (x y:Rat):(x * y).num=x.num / (Int.gcd x.num (y.den:Nat):Int) * (y.num / (Int.gcd y.num (x.den:Nat):Int))/\(((x * y).den:Nat):Int)=((x.den:Nat):Int) / (Int.gcd y.num (x.den:Nat):Int) * (((y.den:Nat):Int) / (Int.gcd x.num (y.den:Nat):Int)):=by
 show (Rat.mul x y).num=_/\(((Rat.mul x y).den:Nat):Int)=_
 unfold Rat.mul
 exact ⟨rfl,rfl⟩
theorem inv_mul {q:Rat} (h0:q ≠ 0):((((q.den:Nat):Int)):Rat)=q⁻¹ * (q.num:Rat):=by
 rw [<- eP q,<- Rat.mul_assoc,Rat.inv_mul_cancel q h0,Rat.one_mul]
theorem Sq.inv {n:Nat} {q:Rat} (h:Sq n q) (h0:q ≠ 0):Sq n q⁻¹:=by
 have hn:q.num ≠ 0:=λz=>h0 (Rat.num_eq_zero.mp z)
 have e:=inv_mul h0
 rcases Int.lt_or_lt_of_ne hn with z | z
 · exact Sq.cO (t:=-((q.den:Nat):Int)) (b:=-q.num) (by omega) (by rw [Rat.intCast_neg,Rat.intCast_neg,e,Rat.mul_neg]) h.den.neg h.num.neg
 · exact Sq.cO z e h.den h.num
theorem tN (p q:Rat):((p.num * ((q.den:Nat):Int) + q.num * ((p.den:Nat):Int):Int):Rat)=(p + q) * (((p.den:Nat):Int) * ((q.den:Nat):Int):Int):=by
 rw [Rat.intCast_add,Rat.intCast_mul,Rat.intCast_mul,Rat.intCast_mul,<- eP p,<- eP q]
 grind
theorem Sq.add {m n:Nat} {p q:Rat} (h:Sq m p) (g:Sq n q):Sq (m + n + 1) (p + q):=Sq.cO (Int.mul_pos (den_pos p) (den_pos q)) (tN p q) ((h.num.mul g.den).add ((Nat.add_comm m n) ▸ g.num.mul h.den)) ((h.den.mul g.den).mono (by omega))
theorem Sq.neg {n:Nat} {q:Rat} (h:Sq n q):Sq n (-q):=⟨h.num.neg,h.den⟩
theorem zu (q:Rat):frD (-q)=.tup [.int (-q.num),.int (q.den:Nat)]:=by
 unfold frD
 rw [show (-q).num=-q.num from rfl,show (-q).den=q.den from rfl]
noncomputable def ko (ds:List D) (r:Sl):Prop:=∃ (m n:Nat) (p q:Rat),ds=[frD p,frD q]/\Sq m p/\Sq n q/\m + n<=8990/\r=.d (frD (p + q))
noncomputable def iO (ds:List D) (r:Sl):Prop:=∃ (m n:Nat) (p q:Rat),ds=[frD p,frD q]/\Sq m p/\Sq n q/\m + n<=8990/\r=.d (frD (p - q))
noncomputable def eR (ds:List D) (r:Sl):Prop:=∃ (m n:Nat) (p q:Rat),ds=[frD p,frD q]/\Sq m p/\Sq n q/\m + n<=8990/\r=.d (frD (p * q))
noncomputable def dR (ds:List D) (r:Sl):Prop:=∃ (m n:Nat) (p q:Rat),ds=[frD p,frD q]/\q ≠ 0/\Sq m p/\Sq n q/\m + n<=8990/\r=.d (frD (p / q))
section
variable {P:Program} {w:World} {K:PySem.W.Frag} {mg:Str->Option Value} {base:Heap} {k:Nat} {f:Addr} {fd:FuncData} {qual:Str}
theorem tm (F:Fun K "sum_of" qual (top 28) f fd) (hb:∀ x ∈ aj,mg x=none) (c_common_divisor:Cal P w K mg base k "common_divisor" aX):aN P w K mg base CX0 (k + 1) f fd ["one","other"] (spD K ko):=by
 refine fnD F lq hb (by rintro _ _ ⟨_,_,_,_,rfl,_⟩; rfl) ?_
 rintro _ _ ⟨m,n,p,q,rfl,h1,h2,hl,rfl⟩ cdv A outer s H E b
 have nd:=lq.nd
 have hq:=den_pos q
 have hp:=den_pos p
 have s0:sg p q ≠ 0:=fg (by omega)
 have sb:Bd n (sg p q):=h2.den.gcd (by omega)
 have g0:sdiv p q ≠ 0:=fg s0
 have gb:Bd n (sdiv p q):=sb.gcd s0
 have fd1:∀ t:Int,t.fdiv (sg p q)=t / sg p q:=λt=>aT t
 have fd2:∀ t:Int,t.fdiv (sdiv p q)=t / sdiv p q:=λt=>aT t
 refine aA 2 nd (x_call b c_common_divisor (ae (aL (aa 0) af (aO (aD (i:=1) rfl))) (ae (aL (aa 1) af (aO (aD (i:=1) rfl))) ag)) ⟨_,_,rfl,rfl⟩) ?_
 show PSs _ _ (dS K [_,_,.d (.int (sg p q)),_,_] _)
 have e3:p.num * ((q.den:Nat):Int).fdiv (sg p q) + q.num * ((p.den:Nat):Int).fdiv (sg p q)=stop p q:=by rw [fd1,fd1]; rfl
 refine aA 3 nd (aw (aw (aL (aa 0) af (aO (aD (i:=0) rfl))) (aw (aL (aa 1) af (aO (aD (i:=1) rfl))) (aa 2) (a9 (sb.aB s0 (by omega)))) (aU (by rw [fd1]; exact h1.num.aC (h2.den.ediv _) (by omega) (by omega)))) (aw (aL (aa 1) af (aO (aD (i:=0) rfl))) (aw (aL (aa 0) af (aO (aD (i:=1) rfl))) (aa 2) (a9 (sb.aB s0 (by omega)))) (aU (by rw [fd1]; exact h2.num.aC (h1.den.ediv _) (by omega) (by omega)))) bB) ?_
 rw [e3]
 refine aA 4 nd (x_call b c_common_divisor (ae (aa 3) (ae (aa 2) ag)) ⟨_,_,rfl,rfl⟩) ?_
 show PSs _ _ (dS K [_,_,_,_,.d (.int (sdiv p q))] _)
 obtain ⟨q1,q2⟩:=Ca p q
 refine aK (fj (ae (aw (aa 3) (aa 4) (a9 (gb.aB g0 (by omega)))) (ae (aw (aw (aL (aa 0) af (aO (aD (i:=1) rfl))) (aa 2) (a9 (sb.aB s0 (by omega)))) (aw (aL (aa 1) af (aO (aD (i:=1) rfl))) (aa 4) (a9 (gb.aB g0 (by omega)))) (aU (by rw [fd1,fd2]; exact (h1.den.ediv _).aC (h2.den.ediv _) (by omega) (by omega)))) ag))) ?_
 rw [fd1,fd2,fd2,<- q1,<- q2]
 rfl
theorem pI (F:Fun K "rest_of" qual (top 29) f fd) (hb:∀ x ∈ aj,mg x=none) (c_sum_of:Cal P w K mg base k "sum_of" ko):aN P w K mg base CX0 (k + 1) f fd ["one","other"] (spD K iO):=by
 refine fnD F pL hb (by rintro _ _ ⟨_,_,_,_,rfl,_⟩; rfl) ?_
 rintro _ _ ⟨m,n,p,q,rfl,h1,h2,hl,rfl⟩ cdv A outer s H E b
 exact aK (x_call b c_sum_of (ae (aa 0) (ae (fj (ae (uP (aL (aa 1) af (aO (aD (i:=0) rfl)))) (ae (aL (aa 1) af (aO (aD (i:=1) rfl))) ag))) ag)) ⟨m,n,p,-q,by rw [zu],h1,h2.neg,hl,by rw [Rat.sub_eq_add_neg]⟩) rfl
theorem kR (F:Fun K "product_of" qual (top 30) f fd) (hb:∀ x ∈ aj,mg x=none) (c_common_divisor:Cal P w K mg base k "common_divisor" aX):aN P w K mg base CX0 (k + 1) f fd ["one","other"] (spD K eR):=by
 refine fnD F gF hb (by rintro _ _ ⟨_,_,_,_,rfl,_⟩; rfl) ?_
 rintro _ _ ⟨m,n,p,q,rfl,h1,h2,hl,rfl⟩ cdv A outer s H E b
 have nd:=gF.nd
 have hq:=den_pos q
 have hp:=den_pos p
 have n1:(Int.gcd p.num (q.den:Nat):Int) ≠ 0:=fg (by omega)
 have n2:(Int.gcd q.num (p.den:Nat):Int) ≠ 0:=fg (by omega)
 have d1:=(h2.den.gcd (i:=p.num) (by omega)).aB n1 (by omega)
 have d2:=(h1.den.gcd (i:=q.num) (by omega)).aB n2 (by omega)
 obtain ⟨q1,q2⟩:=As p q
 refine aA 2 nd (x_call b c_common_divisor (ae (aL (aa 0) af (aO (aD (i:=0) rfl))) (ae (aL (aa 1) af (aO (aD (i:=1) rfl))) ag)) ⟨_,_,rfl,rfl⟩) ?_
 refine aA 3 nd (x_call b c_common_divisor (ae (aL (aa 1) af (aO (aD (i:=0) rfl))) (ae (aL (aa 0) af (aO (aD (i:=1) rfl))) ag)) ⟨_,_,rfl,rfl⟩) ?_
 refine aK (fj (ae (aw (aw (aL (aa 0) af (aO (aD (i:=0) rfl))) (aa 2) (a9 d1)) (aw (aL (aa 1) af (aO (aD (i:=0) rfl))) (aa 3) (a9 d2)) (aU (by rw [aT,aT]; exact (h1.num.ediv _).aC (h2.num.ediv _) (by omega) (by omega)))) (ae (aw (aw (aL (aa 0) af (aO (aD (i:=1) rfl))) (aa 3) (a9 d2)) (aw (aL (aa 1) af (aO (aD (i:=1) rfl))) (aa 2) (a9 d1)) (aU (by rw [aT,aT]; exact (h1.den.ediv _).aC (h2.den.ediv _) (by omega) (by omega)))) ag))) ?_
 rw [aT,aT,aT,aT,<- q1,<- q2]
 rfl
theorem kr (F:Fun K "quotient_of" qual (top 31) f fd) (hb:∀ x ∈ aj,mg x=none) (c_product_of:Cal P w K mg base k "product_of" eR) (c_in_lowest_terms:Cal P w K mg base k "in_lowest_terms" bI):aN P w K mg base CX0 (k + 1) f fd ["one","other"] (spD K dR):=by
 refine fnD F j3 hb (by rintro _ _ ⟨_,_,_,_,rfl,_⟩; rfl) ?_
 rintro _ _ ⟨m,n,p,q,rfl,h0,h1,h2,hl,rfl⟩ cdv A outer s H E b
 have hn:q.num ≠ 0:=λz=>h0 (Rat.num_eq_zero.mp z)
 refine cu (aZ (aL (aa 1) af (aO (aD (i:=0) rfl))) af fK) (decide_eq_false hn) ?_
 exact aK (x_call b c_product_of (ae (aa 0) (ae (x_call b c_in_lowest_terms (ae (aL (aa 1) af (aO (aD (i:=1) rfl))) (ae (aL (aa 1) af (aO (aD (i:=0) rfl))) ag)) ⟨_,_,q⁻¹,rfl,hn,h2.num.mono (by omega),inv_mul h0,rfl⟩) ag)) ⟨m,n,p,q⁻¹,rfl,h1,h2.inv h0,hl,by rw [Rat.div_def]⟩) rfl
end
theorem vH (p q:Rat):((p.num * q.num:Int):Rat)=p * q * (((p.den:Nat):Int) * ((q.den:Nat):Int):Int):=by
 rw [Rat.intCast_mul,Rat.intCast_mul,<- eP p,<- eP q]
 grind
theorem wC {a b:Int} (h:0 < a) (g:0 < b):0 < a * b:=Int.mul_pos h g
theorem Sq.mul {m n:Nat} {p q:Rat} (h:Sq m p) (g:Sq n q):Sq (m + n) (p * q):=Sq.cO (wC (den_pos p) (den_pos q)) (vH p q) (h.num.mul g.num) (h.den.mul g.den)
structure Mz (R C:Nat) (c:Nat->Nat->Rat) (d v:Nat):Prop where
 ne:∀ i j,c i j ≠ 0
 r1:1<=R
 r7:R<=7
 c1:1<=C
 c7:C<=7
 q:∀ i < R,Cq C d v (nv (min R C) c i)
 sc:∀ i < R,∀ j < C,Sq 270 (c i j)
 bz:∀ n,n<=R->n<=C->n * (v + 3)<=8800/\n * (d + 1)<=8990
 cd:C * (d + 1)<=8990
 vd:v + d<=4000
section
variable {R C d v:Nat} {c:Nat->Nat->Rat}
theorem Mz.md (h:Mz R C c d v) (k:Nat):∀ r ∈ mkT R C (mdK C (nv (min R C) c) k),Rb d v r:=λr hr=>by
 unfold mkT at hr
 obtain ⟨i,hi,rfl⟩:=List.mem_map.mp hr
 obtain ⟨D,h0,h1,h2⟩:=h.q i (List.mem_range.mp hi)
 refine ⟨D,h0,h1,λx hx=>?_⟩
 obtain ⟨j,hj,rfl⟩:=List.mem_map.mp hx
 unfold mdK
 split
 · exact h2 j (List.mem_range.mp hj)
 · exact ⟨0,by rw [Rat.zero_mul]; rfl,by simp⟩
theorem Mz.yr (h:Mz R C c d v):∀ r ∈ mkT R C (nv (min R C) c),Rb d v r:=λr hr=>by
 unfold mkT at hr
 obtain ⟨i,hi,rfl⟩:=List.mem_map.mp hr
 exact Rb.Bo (h.q i (List.mem_range.mp hi))
theorem Mz.yq (h:Mz R C c d v):∀ r ∈ mkT R C (nv (min R C) c),∀ x ∈ r,Qs (d + 1) v x:=λr hr=>(h.yr r hr).qs
theorem iY {i:Nat} (hi:i < R):atI ((mkT R C c).map rwQ) (i:Int)=some (rwQ ((mkT R C c).getD i [])):=dF [] (by rw [cU]; exact hi)
theorem mO {i j:Nat} (hi:i < R) (hj:j < C):atI (((mkT R C c).getD i []).map frD) (j:Int)=some (frD (c i j)):=by
 rw [dF 0 (by rw [eW hi,List.length_map,List.length_range]; exact hj),qL hi hj]
end
noncomputable def bU (ds:List D) (r:Sl):Prop:=∃ (R C d v i j:Nat) (c:Nat->Nat->Rat),ds=[tbQ (mkT R C c),tbQ (mkT R C (mdK C (nv (min R C) c) (C * i + j))),.int (i:Nat),.int (j:Nat)]/\Mz R C c d v/\i < R/\j < C/\r=.d (frD (nv (min R C) c i j))
section
variable {P:Program} {w:World} {K:PySem.W.Frag} {mg:Str->Option Value} {base:Heap} {k:Nat} {f:Addr} {fd:FuncData} {qual:Str}
set_option maxHeartbeats 1000000 in
theorem fR (F:Fun K "number_for_corner" qual (top 53) f fd) (hb:∀ x ∈ aj,mg x=none) (c_rest_of:Cal P w K mg base k "rest_of" iO) (c_quotient_of:Cal P w K mg base k "quotient_of" dR) (c_square_determinant:Cal P w K mg base k "square_determinant" bx) (c_corner_part:Cal P w K mg base k "corner_part" cG):aN P w K mg base CX0 (k + 1) f fd ["table","made","i","j"] (spD K bU):=by
 refine fnD F cK hb (by rintro _ _ ⟨_,_,_,_,_,_,_,rfl,_⟩; rfl) ?_
 rintro _ _ ⟨R,C,d,v,i,j,c,rfl,h,hi,hj,rfl⟩ cdv A outer s H E b
 have nd:=cK.nd
 have r1:=h.r1
 have c1:=h.c1
 have vd:=h.vd
 refine cv (PW.pt (d8 (aZ (aa 2) af fK) λh=>(df (aZ (aa 3) af fK)))) (λz=>?_) λz=>?_
 · have z:i=0\/j=0:=by
     rcases Bool.or_eq_true _ _ |>.mp z with z | z
     · have:=of_decide_eq_true z; omega
     · have:=of_decide_eq_true z; omega
   have e:nv (min R C) c i j=c i j:=by
     rcases z with rfl | rfl
     · exact lZ h.ne (by omega) j
     · exact t5 h.ne (by omega) i
   rw [e]
   exact aK (aL (aL (aa 0) (aa 2) (aP (iY hi))) (aa 3) (aP (mO hi hj))) rfl
 · have z:1<=i/\1<=j:=by
     have z:=Bool.or_eq_false_iff.mp z
     have z1:=of_decide_eq_false z.1
     have z2:=of_decide_eq_false z.2
     omega
   have t:=gi (G:=mdK C (nv (min R C) c) (C * i + j)) r1 h.r7 c1 h.c7
   have tc:=vC t hi hj
   have ec:det (cnS i j) (qM (cnM (mkT R C (mdK C (nv (min R C) c) (C * i + j))) i j))=c i j - nv (min R C) c i j * c (i - 1) (j - 1):=by rw [vD t hi hj,tK h.ne z.1 z.2 hi hj (by omega)]
   have sy:Sq (v + (d + 1)) (nv (min R C) c i j):=((h.q i hi).qs hj).sq
   have s1:=h.sc i hi j hj
   have s2:=h.sc (i - 1) (by omega) (j - 1) (by omega)
   have sm:Sq (v + (d + 1) + 270) (nv (min R C) c i j * c (i - 1) (j - 1)):=sy.mul s2
   have sd:Sq (270 + (v + (d + 1) + 270) + 1) (c i j - nv (min R C) c i j * c (i - 1) (j - 1)):=by rw [Rat.sub_eq_add_neg]; exact s1.add sm.neg
   refine aA 4 nd (x_call b c_rest_of (ae (aL (aL (aa 0) (aa 2) (aP (iY hi))) (aa 3) (aP (mO hi hj))) (ae (x_call b c_square_determinant (ae (bu (x:=tbQ (cnM (mkT R C (mdK C (nv (min R C) c) (C * i + j))) i j)) (x_call b c_corner_part (ae (aa 1) (ae (aa 2) (ae (aa 3) ag))) ⟨R,C,i,j,_,rfl,t,hi,hj,rfl⟩)) ag) ⟨cnS i j,d,v,_,rfl,tc,yn (h.md _),(h.bz (cnS i j) (by unfold cnS; omega) (by unfold cnS; omega)).1,(h.bz (cnS i j) (by unfold cnS; omega) (by unfold cnS; omega)).2,by omega,rfl⟩) ag)) ⟨270,270 + (v + (d + 1) + 270) + 1,c i j,c i j - nv (min R C) c i j * c (i - 1) (j - 1),by rw [ec],s1,sd,by omega,rfl⟩) ?_
   have e1:c i j - (c i j - nv (min R C) c i j * c (i - 1) (j - 1))=nv (min R C) c i j * c (i - 1) (j - 1):=by grind
   rw [e1]
   have ei:(i:Int) - 1=((i - 1:Nat):Int):=by omega
   have ej:(j:Int) - 1=((j - 1:Nat):Int):=by omega
   exact aK (x_call b c_quotient_of (ae (aa 4) (ae (aL (aL (aa 0) (aw (aa 2) af cY) (aP (by rw [ei]; exact iY (by omega)))) (aw (aa 3) af cY) (aP (by rw [ej]; exact mO (by omega) (by omega)))) ag)) ⟨v + (d + 1) + 270,270,_,c (i - 1) (j - 1),rfl,h.ne _ _,sm,s2,by omega,by rw [Rat.mul_div_cancel (h.ne _ _)]⟩) rfl
end
noncomputable def Mk1 (K:PySem.W.Frag) (mg:Str->Option Value) (n:Str) (i j:Int):Prop:=∃ a,mg n=some (.ref a)/\∀ H,SqT K H a [.int i,.int j]
theorem uM {X:Cx} {C:Bool} {τ:List Sl} {pos:Pos} {n:Str} {i j:Int} (h:Mk1 X.K X.mg n i j) (hg:Gl X n:=by rfl) (hd:(n == ("__debug__" : Str))=false:=by decide):PE X (.Name n pos) (dE X.K C τ (.d (.tup [.int i,.int j]))):=by
 obtain ⟨a,hm,hb⟩:=h
 exact lB (nF (v:=.ref a) hg hm rfl hd) λH=>.tup (hb H) (.cons .int (.cons .int .nil))
noncomputable def jf (ds:List D) (r:Sl):Prop:=∃ (R C d v:Nat) (c:Nat->Nat->Rat),ds=[tbQ (mkT R C c)]/\Mz R C c d v/\r=.n (cT (mkT R C (nv (min R C) c)))
theorem qW (q:Rat):Ev.da (frD q):=⟨by simp [Ev.cln,Ev.eG,frD],by simp [Ev.dep,Ev.fx,frD]⟩
theorem yz {q:Rat} (h:q ≠ 0):Ev.eqD (frD q) (frD 0)=false:=by
 have:q.num ≠ 0:=λz=>h (Rat.num_eq_zero.mp z)
 unfold frD
 rw [Ev.eqD,Ev.ju,Ev.eqD,show (0:Rat).num=0 from rfl,beq_eq_false_iff_ne.mpr this]
 rfl
theorem wo (xs:List D):fM (xs.map .d)=true:=by
 induction xs with
 | nil=>rfl
 | cons x xs ih=>rw [List.map_cons,fM,ek,ih]; rfl
theorem rO (M:List (List Rat)):ek (cT M)=true:=by
 unfold cT
 rw [ek]
 induction M with
 | nil=>rfl
 | cons r M ih=>rw [List.map_cons,fM,ek,wo,ih]; rfl
noncomputable def mbS (R C:Nat) (c H:Nat->Nat->Rat) (s2 s3:D):List Sl:=[.d (tbQ (mkT R C c)),.n (cT (mkT R C H)),.d s2,.d s3]
theorem zy {R C:Nat} {c H:Nat->Nat->Rat} {s2 s3:D}:∀ (i:Nat) (t:Nd),(mbS R C c H s2 s3)[i]?=some (Sl.n t)->ek t=true
 | 0,_,h=>by cases h
 | 1,_,h=>by cases h; exact rO _
 | 2,_,h=>by cases h
 | 3,_,h=>by cases h
 | _ + 4,_,h=>by cases h
theorem rE {α:Type} (x:α):∀ n,(List.replicate n [x]).flatten=List.replicate n x
 | 0=>rfl
 | n + 1=>by rw [List.replicate_succ,List.flatten_cons,rE x n]; rfl
section
variable {P:Program} {w:World} {K:PySem.W.Frag} {mg:Str->Option Value} {base:Heap} {k:Nat} {f:Addr} {fd:FuncData} {qual:Str}
set_option maxHeartbeats 1000000 in
theorem qt (F:Fun K "made_by" qual (top 52) f fd) (hb:∀ x ∈ aj,mg x=none) (y_NOUGHT:Mk1 K mg "NOUGHT" 0 1) (c_look_table:Cal P w K mg base k "look_table" cc) (c_number_for_corner:Cal P w K mg base k "number_for_corner" bU):aN P w K mg base CX0 (k + 1) f fd ["table"] (spD K jf):=by
 refine fnD F gW hb (by rintro _ _ ⟨_,_,_,_,_,rfl,_⟩; rfl) ?_
 rintro _ _ ⟨R,C,d,v,c,rfl,h,rfl⟩ cdv A outer s H E b
 have nd:=gW.nd
 have r1:=h.r1
 have c1:=h.c1
 have r7:=h.r7
 have c7:=h.c7
 have t:=gi (G:=c) r1 r7 c1 c7
 have lM:((mkT R C c).map rwQ).length=R:=by rw [List.length_map,cU]
 refine mW (x_call b c_look_table (ae (aa 0) ag) ⟨R,C,_,rfl,t,rfl⟩) ?_
 have no:∀ i,i < R->(((mkT R C c).getD i []).map frD).any (λz=>Ev.eqD z (frD 0))=false:=λi hi=>by
   rw [eW hi,List.map_map,List.any_map]
   refine List.any_eq_false.mpr λj _=>?_
   show ¬ Ev.eqD (frD (c i j)) (frD 0)=true
   rw [yz (h.ne i j)]
   decide
 refine cu (bC (bh b (ae (bu (eZ (cmp 0 (g:=λi=>rwQ ((mkT R C c).getD i [])) (f:=λi=>.bl ((((mkT R C c).getD i []).map frD).any (λz=>Ev.eqD z (frD 0)))) b (aY (aa 0)) (bW (f:=rwQ) (xs:=mkT R C c) []) (by rw [lM]; omega) λi hi s0 H0 fp=>(fh (uM y_NOUGHT) (aa 0) (uF (b.comp s0 H0 _ fp) (qW 0) λz hz=>?_))))) ag) (vb b.calm ((List.range R).map λi=>(((mkT R C c).getD i []).map frD).any (λz=>Ev.eqD z (frD 0))) ?_))) ?_ ?_
 · obtain ⟨q,_,rfl⟩:=List.mem_map.mp hz
   exact qW q
 · rw [lM,List.map_map]
   rfl
 · rw [List.any_map]
   refine List.any_eq_false.mpr λi hi=>?_
   show ¬ id ((((mkT R C c).getD i []).map frD).any (λz=>Ev.eqD z (frD 0)))=true
   rw [no i (List.mem_range.mp hi)]
   decide
 refine wy 1 nd (ns:=(List.range ((mkT R C c).map rwQ).length).map λ_=>.l ((List.replicate C (frD 0)).map .d)) (Ab 0 (g:=λi=>rwQ ((mkT R C c).getD i [])) (f:=λ_=>.l ((List.replicate C (frD 0)).map .d)) (S':=λ_=>.o (List.replicate (C:Int).toNat [frD 0]).flatten) b (aY (aa 0)) (bW (f:=rwQ) (xs:=mkT R C c) []) (by rw [lM]; omega) (λi hi s0 H0 fp=>Bz (bu (cw (ae (uM y_NOUGHT) ag))) (bh (b.comp s0 H0 _ fp) (ae (aa 0) ag) (cN (n:=C) (by rw [List.length_map]; exact t.at_ (by rw [lM] at hi; exact hi)))) (by omega) (by omega) (by rw [Int.toNat_natCast]; show 1 * C < _; omega)) λi hi=>by rw [Int.toNat_natCast,rE]; rfl) ?_
 have e0:(List.range ((mkT R C c).map rwQ).length).map (λ_=>Nd.l ((List.replicate C (frD 0)).map .d))=(mkT R C λ_ _=>0).map (λr=>Nd.l ((r.map frD).map .d)):=by
   rw [lM]
   unfold mkT
   rw [List.map_map]
   refine List.map_congr_left λi _=>?_
   show Nd.l _=Nd.l ((((List.range C).map λ_=>(0:Rat)).map frD).map .d)
   congr 2
   refine List.ext_getElem (by simp) λx h1 h2=>by simp
 rw [e0,<- CB C (nv (min R C) c)]
 refine cb 2 (λi τ=>i<=R/\∃ s2 s3,τ=[.d (tbQ (mkT R C c)),.n (cT (mkT R C (mdK C (nv (min R C) c) (C * i)))),s2,s3]) b nd (fJ b (bh b (ae (aa 0) ag) (cN (n:=R) lM)) (by omega) (by omega)) fo ⟨Nat.zero_le _,.un,.un,by rw [Nat.mul_zero]; rfl⟩ (λi hi τ z=>?_) λτ z=>?_
 · obtain ⟨_,s2,s3,rfl⟩:=z
   have hi:i < R:=by rw [aF] at hi; omega
   refine cb 3 (λj τ=>j<=C/\∃ s3,τ=[.d (tbQ (mkT R C c)),.n (cT (mkT R C (mdK C (nv (min R C) c) (C * i + j)))),.d (.int (i:Nat)),s3]) b nd (fJ b (bh b (ae (aL (aa 0) af (aP (iY (i:=0) (by omega)))) ag) (cN (n:=C) (by rw [List.length_map]; exact t.at_ (by omega)))) (by omega) (by omega)) fo ⟨Nat.zero_le _,s3,rfl⟩ (λj hj τ z=>?_) λτ z=>?_
   · obtain ⟨_,s3',rfl⟩:=z
     have hj:j < C:=by rw [aF] at hj; omega
     refine zc (pt:=[]++[i]) (t:=cT (mkT R C (mdK C (nv (min R C) c) (C * i + j)))) (ds:=((mkT R C (mdK C (nv (min R C) c) (C * i + j))).getD i []).map frD) (j:=j) (x:=frD (nv (min R C) c i j)) (vZ (fN 1) (aa 2) rfl rfl (pC hi)) (aa 3) (x_call b c_number_for_corner (ae (aa 0) (ae (uQ (fN 1) rfl rfl) (ae (aa 2) (ae (aa 3) ag)))) ⟨R,C,d,v,i,j,c,by rw [gO]; rfl,h,hi,hj,rfl⟩) rfl (zy (H:=mdK C (nv (min R C) c) (C * i + j))) rfl (mD hi) (rW hi hj) (aV ⟨by omega,.d (.int (j:Nat)),?_⟩)
     show List.set [_,_,_,_] 1 (Sl.n (b6 [i] (cT (mkT R C (mdK C (nv (min R C) c) (C * i + j)))) _))=_
     rw [rD,wZ hi hj]
     rfl
   · obtain ⟨_,s3',rfl⟩:=z
     rw [aF,Int.toNat_natCast,xI R]
     exact aV ⟨by omega,_,_,rfl⟩
 · obtain ⟨_,s2,s3,rfl⟩:=z
   rw [aF,Int.toNat_natCast,w9]
   exact jL 1 rfl
end
mutual
theorem cX:∀ x:D,Ev.eqD x x=true
 | .non=>by rw [Ev.eqD]
 | .bl a=>by simp [Ev.eqD]
 | .int a=>by simp [Ev.eqD]
 | .str a=>by simp [Ev.eqD]
 | .tup xs=>by rw [Ev.eqD]; exact iP xs
 | .lst xs=>by rw [Ev.eqD]; exact iP xs
 | .box x=>by rw [Ev.eqD]
theorem iP:∀ xs:List D,Ev.ju xs xs=true
 | []=>by rw [Ev.ju]
 | x :: xs=>by rw [Ev.ju,cX x,iP xs]; rfl
end
theorem qU:∀ r:List Rat,Ev.eG (r.map frD)=true/\Ev.fx (r.map frD)<=1
 | []=>by simp [Ev.eG,Ev.fx]
 | x :: r=>by
   obtain ⟨h1,h2⟩:=qU r
   rw [List.map_cons,Ev.eG,Ev.fx,h1,frD]
   refine ⟨by simp [Ev.cln,Ev.eG],?_⟩
   have:Ev.dep (.tup [.int x.num,.int (x.den:Nat)])=1:=by simp [Ev.dep,Ev.fx]
   rw [this]
   omega
theorem rB:∀ m:List (List Rat),Ev.eG (m.map rwQ)=true/\Ev.fx (m.map rwQ)<=2
 | []=>by simp [Ev.eG,Ev.fx]
 | r :: m=>by
   obtain ⟨h1,h2⟩:=rB m
   obtain ⟨h3,h4⟩:=qU r
   rw [List.map_cons,Ev.eG,Ev.fx,h1,show rwQ r=.lst (r.map frD) from rfl,Ev.cln,Ev.dep,h3]
   exact ⟨rfl,by omega⟩
theorem dD (m:List (List Rat)):Ev.da (tbQ m):=by
 obtain ⟨h1,h2⟩:=rB m
 unfold tbQ Ev.da
 rw [Ev.cln,Ev.dep,h1]
 exact ⟨rfl,by omega⟩
section
variable {P:Program} {w:World} {K:PySem.W.Frag} {mg:Str->Option Value} {base:Heap} {k:Nat} {f:Addr} {fd:FuncData} {qual:Str}
end
end K59
namespace Hy
open PySem PySem.Spec PyProof.Rows L2
open Ev (D Den aq)
noncomputable def Dfn (K:PySem.W.Frag) (x:Str) (st:Stmt) (f:Addr):Prop:=PySem.W.nsIn K mainGlobals x=some (some (.ref f))/\(∃ oc od kV dc pm an cd ct sl,K.lookup f=some ⟨oc,od,.func (PySem.W.fnOf x x (cD st) (bK st) (ah st) .none kV dc pm an cd ct),sl⟩/\PySem.W.codeIn K cd x=true)/\PySem.W.keepIn K (.ref f)=true
noncomputable def BdA (x:Str) (st:Stmt) (ps:List Str):Prop:=∀ (kV dc pm:Value) (an:Option Addr) (cd ct:Value) (us:List Value),us.length=ps.length->bindArgs (PySem.W.fnOf x x (cD st) (bK st) (ah st) .none kV dc pm an cd ct) ⟨us,[]⟩=pure (ps.zip us)
noncomputable def nsL (K:PySem.W.Frag):List Str->Prop
 | []=>True
 | x :: r=>PySem.W.nsIn K mainGlobals x=some none/\nsL K r
section
variable {P:Program} {w:World} {K:PySem.W.Frag} {h:Heap} {mg:Str->Option Value} {base:Heap} {x:Str} {st:Stmt} {f:Addr} {ps:List Str} {k:Nat} {Φ:List D->Sl->Prop}
theorem Dfn.of {oc:Value} {od an:Option Addr} {kV dc pm cd ct:Value} {sl:Array (Option Value)} (a:PySem.W.nsIn K mainGlobals x=some (some (.ref f))) (l:K.lookup f=some ⟨oc,od,.func (PySem.W.fnOf x x (cD st) (bK st) (ah st) .none kV dc pm an cd ct),sl⟩) (c:PySem.W.codeIn K cd x=true) (k:PySem.W.keepIn K (.ref f)=true):Dfn K x st f:=⟨a,⟨_,_,_,_,_,_,_,_,_,l,c⟩,k⟩
theorem nsL.none (X:K.In h) (G:h.Ns mainGlobals mg):∀ {l:List Str},nsL K l->∀ x ∈ l,mg x=none
 | _ :: _,z,x,m=>by
   rcases List.mem_cons.mp m with rfl | m
   · exact PySem.W.mg_none_of X G z.1
   · exact nsL.none X G z.2 x m
theorem Dfn.fn (d:Dfn K x st f) (X:K.In h) (G:h.Ns mainGlobals mg) (b:BdA x st ps):∃ fd,Fun K x x st f fd/\mg x=some (.ref f)/\PySem.W.keepIn K (.ref f)=true/\Binds K fd ps []:=by
 obtain ⟨a,⟨oc,od,kV,dc,pm,an,cd,ct,sl,l,c'⟩,q⟩:=d
 have F:=qx l c' q
 exact ⟨_,F,PySem.W.mg_of X G a,q,F.binds (b kV dc pm an cd ct)⟩
theorem Dfn.cal (d:Dfn K x st f) (X:K.In h) (G:h.Ns mainGlobals mg) (b:BdA x st ps) (o:∀ fd,Fun K x x st f fd->aN P w K mg base CX0 k f fd ps (spD K Φ)):Cal P w K mg base k x Φ:=by
 obtain ⟨fd,F,h1,h2,h3⟩:=d.fn X G b
 exact ⟨f,fd,ps,o fd F,h1,h2,h3⟩
end
theorem bd1 {Q:List Value->Prop} (h:∀ a,Q [a]):∀ us:List Value,us.length=1->Q us:=λus e=>match us,e with | [a],_=>h a
theorem bd2 {Q:List Value->Prop} (h:∀ a b,Q [a,b]):∀ us:List Value,us.length=2->Q us:=λus e=>match us,e with | [a,b],_=>h a b
theorem bd3 {Q:List Value->Prop} (h:∀ a b c,Q [a,b,c]):∀ us:List Value,us.length=3->Q us:=λus e=>match us,e with | [a,b,c],_=>h a b c
theorem bd4 {Q:List Value->Prop} (h:∀ a b c d,Q [a,b,c,d]):∀ us:List Value,us.length=4->Q us:=λus e=>match us,e with | [a,b,c,d],_=>h a b c d
section
variable {X:Cx} {τ:List Sl} {e:Expr} {es:List Expr} {p pos:Pos} {k:Nat} {Et:Hp->Prop} {t2:TA}
end
end Hy
namespace K59
open PySem PySem.Spec PyProof.Rows L2 Hy
open Ev (D Den aq aC aB)
noncomputable def u3 (x:D):Prop:=∃ (R C:Nat) (c:Nat->Nat->Rat) (i j:Nat),x=tbQ (mkT R C c)/\1<=R/\R<=7/\1<=C/\C<=7/\i < R/\j < C/\c i j=0
noncomputable def Am (ds:List D) (c:Nat):Prop:=∃ x,ds=[x]/\((sx x=false/\c=1)\/(u3 x/\c=12))
theorem uO (q:Rat):Ev.da (frD q):=⟨by simp [Ev.cln,Ev.eG,frD],by simp [Ev.dep,Ev.fx,frD]⟩
section
variable {P:Program} {w:World} {K:PySem.W.Frag} {mg:Str->Option Value} {base:Heap} {k:Nat} {f:Addr} {fd:FuncData} {qual:Str}
theorem qh {cl:Nat->Addr} (F:Fun K "corners" qual (top 49) f fd) (hb:∀ x ∈ aj,mg x=none) (x_look_table:jw P w K mg base cl k "look_table" j1):aN P w K mg base (Hx.CXe P w cl) (k + 1) f fd ["table"] (spX K cl j1):=by
 refine fnX F kN hb (by rintro _ _ ⟨_,rfl,_⟩; rfl) ?_
 rintro _ _ ⟨x,rfl,h2,rfl⟩ cdv A outer s H E hr b ps lv
 exact jF (jG (c:=1) (C:=false) hr ps x_look_table (ae (aa 0) ag) ⟨x,rfl,h2,rfl⟩)
theorem qi {cl:Nat->Addr} {cs:List Nat} (F:Fun K "made_by" qual (top 52) f fd) (hb:∀ x ∈ aj,mg x=none) (Z:Cls K mg cl cs) (h4:12 ∈ cs) (y_NOUGHT:Mk1 K mg "NOUGHT" 0 1) (x_look_table:jw P w K mg base cl k "look_table" j1) (c_look_table:Cal P w K mg base k "look_table" cc):aN P w K mg base (Hx.CXe P w cl) (k + 1) f fd ["table"] (spX K cl Am):=by
 obtain ⟨S,hS,hx⟩:=Z.ex
 refine fnX F gW hb (by rintro _ _ ⟨_,rfl,_⟩; rfl) ?_
 rintro _ _ ⟨x,rfl,(⟨h,rfl⟩ | ⟨⟨R,C,c,i,j,rfl,r1,r7,c1,c7,hi,hj,e⟩,rfl⟩)⟩ cdv A outer s H E hr b ps lv
 · exact jF (jG (c:=1) (C:=false) hr ps x_look_table (ae (aa 0) ag) ⟨x,rfl,h,rfl⟩)
 have t:=gi (G:=c) r1 r7 c1 c7
 have lM:((mkT R C c).map rwQ).length=R:=by rw [List.length_map,cU]
 refine mW (PE.nox (x_call b c_look_table (ae (aa 0) ag) ⟨R,C,_,rfl,t,rfl⟩)) ?_
 refine cv (PT.nox (bC (bh b (ae (bu (eZ (cmp 0 (g:=λi=>rwQ ((mkT R C c).getD i [])) (f:=λi=>.bl ((((mkT R C c).getD i []).map frD).any (λz=>Ev.eqD z (frD 0)))) b (aY (aa 0)) (bW (f:=rwQ) (xs:=mkT R C c) []) (by rw [lM]; omega) λi hi s0 H0 fp=>(fh (uM y_NOUGHT) (aa 0) (uF (b.comp s0 H0 _ fp) (uO 0) λz hz=>?_))))) ag) (vb b.calm ((List.range R).map λi=>(((mkT R C c).getD i []).map frD).any (λz=>Ev.eqD z (frD 0))) ?_)))) (λ_=>rT (lv 12) (Z.nm 12 (by decide)) (hx 12 h4).1 (ae bH ag)) λz=>?_
 · obtain ⟨q,_,rfl⟩:=List.mem_map.mp hz
   exact uO q
 · rw [lM,List.map_map]
   rfl
 · exfalso
   rw [List.any_map] at z
   have z:=List.any_eq_false.mp z i (List.mem_range.mpr hi)
   refine z ?_
   show (((mkT R C c).getD i []).map frD).any (λz=>Ev.eqD z (frD 0))=true
   rw [eW hi,List.map_map]
   refine List.any_eq_true.mpr ⟨frD (c i j),List.mem_map.mpr ⟨j,List.mem_range.mpr hj,rfl⟩,?_⟩
   rw [e]
   exact cX _
end
end K59
namespace Hy
open PySem PySem.Spec PyProof.Rows L2
open Ev (D Den aq)
section
variable {P:Program} {w:World} {K:PySem.W.Frag} {h:Heap} {mg:Str->Option Value} {base:Heap} {x:Str} {st:Stmt} {f:Addr} {ps:List Str} {k:Nat} {Φ:List D->Nat->Prop} {cl:Nat->Addr}
theorem Dfn.zD (d:Dfn K x st f) (X:K.In h) (G:h.Ns mainGlobals mg) (b:BdA x st ps) (o:∀ fd,Fun K x x st f fd->aN P w K mg base (Hx.CXe P w cl) k f fd ps (spX K cl Φ)):jw P w K mg base cl k x Φ:=by
 obtain ⟨fd,F,h1,h2,h3⟩:=d.fn X G b
 exact ⟨f,fd,ps,o fd F,h1,h2,h3⟩
end
theorem pP {K:PySem.W.Frag} {C D:Addr} {dd:Option Addr} {cd:ClassData} {sl:Array (Option Value)} {b:Bool} (h:(Value.ref C == Value.ref D)=false) (e:K.lookup D=some ⟨.type "type",dd,.cls cd,sl⟩) (s:PySem.W.subIn K (.ref C) (.ref D)=some b):PySem.W.kitCls K (.ref C) (.ref D)=some b/\PySem.W.kitOne K (.ref C) (.ref D)=some b:=by
 have z:PySem.W.kitCls K (.ref C) (.ref D)=some b:=by
   have c:PySem.W.clsIn K D=some cd:=by unfold PySem.W.clsIn; rw [e]
   have t:PySem.W.typeIn K (.ref D)=some (.type "type"):=by show (K.lookup D).map _=_; rw [e]; rfl
   show (if ((PySem.W.clsIn K D).isSome && PySem.W.typeIn K (.ref D) == some (.type "type"))=true then PySem.W.subIn K (.ref C) (.ref D) else none)=some b
   rw [if_pos (by rw [c,t]; simp)]
   exact s
 refine ⟨z,?_⟩
 unfold PySem.W.kitOne
 rw [if_neg (by rw [h]; decide)]
 exact z
theorem vj {K:PySem.W.Frag} {C:Addr}:PySem.W.kitOne K (.ref C) (.ref C)=some true:=by
 unfold PySem.W.kitOne
 rw [if_pos (by simp)]
theorem xC {K:PySem.W.Frag} {C:Addr} (s:PySem.W.subIn K (.ref C) (.type "ValueError")=some true):PySem.W.kitOne K (.ref C) (.type "ValueError")=some true:=by
 unfold PySem.W.kitOne
 rw [if_neg (by simp)]
 show (if PySem.W.kitMeta "ValueError" = true then PySem.W.subIn K (.ref C) (.type "ValueError") else none)=some true
 rw [if_pos (by decide +kernel)]
 exact s
theorem Ay {K:PySem.W.Frag} {C S:Addr} (h:PySem.W.subIn K (.ref S) (.type "BaseException")=some true) (k:PySem.W.kitCls K (.ref C) (.ref S)=some true):PySem.W.exmOne K (.ref C) (.ref S)=some true:=by
 unfold PySem.W.exmOne
 rw [if_pos (by rw [h]; rfl)]
 exact k
end Hy
namespace K59
open PySem PySem.Spec PyProof.Rows L2 Hy
open Ev (D Den aq aC aB)
open PySem.W (nsIn subIn findIn mroIn specialIn takesIn)
noncomputable def wW (K:PySem.W.Frag) (SM:Addr):Prop:=∃ dd cd sl oN,K.lookup SM=some ⟨.type "type",dd,.cls cd,sl⟩/\K.lookup cd.ns=some oN/\Hx.nsO oN=true/\nsIn K cd.ns "__init__" = some none/\subIn K (.ref SM) (.type "BaseException")=some true
theorem wW.of {K:PySem.W.Frag} {SM:Addr} {dd:Option Addr} {cd:ClassData} {sl:Array (Option Value)} {oN:Obj} (a:K.lookup SM=some ⟨.type "type",dd,.cls cd,sl⟩) (b:K.lookup cd.ns=some oN) (c:Hx.nsO oN=true) (d:nsIn K cd.ns "__init__" = some none) (e:subIn K (.ref SM) (.type "BaseException")=some true):wW K SM:=⟨_,_,_,_,a,b,c,d,e⟩
structure uW (K:PySem.W.Frag) (SM C:Addr):Prop where
 obj:∃ nm q N bs hdct sn sub ab col dd k0 k1 k2 k3 k5 oN,K.lookup C=some (excClassObj nm q C N bs (.ref SM :: Hx.bmV) hdct sn sub ab col dd k0 k1 k2 k3 k5 "ValueError.__new__")/\K.lookup N=some oN/\Hx.nsO oN=true/\nsIn K N "__init__" = some none
 ga:findIn K (.ref C) "__getattribute__" = some (some (.builtin "BaseException.__getattribute__"))
 gb:findIn K (.ref C) "__getattr__" = some none
 gc:findIn K (.ref C) "__class__" = some (some (.builtin "object.__class__"))
 gd:mroIn K C (.type "object")=some true
 ge:mroIn K C (.type "BaseException")=some true
 sS:subIn K (.ref C) (.ref SM)=some true
 nx:(Value.ref C == Value.ref SM)=false
 sV:subIn K (.ref C) (.type "ValueError")=some true
theorem uW.of {K:PySem.W.Frag} {SM C N:Addr} {nm qn:Str} {bs sub:List Value} {hd ab:Bool} {sn:List Str} {col:Option Bool} {dd:Option Addr} {ka kb kc kd ke:Option Value} {oN:Obj} (w:K.lookup C=some (excClassObj nm qn C N bs (.ref SM :: Hx.bmV) hd sn sub ab col dd ka kb kc kd ke "ValueError.__new__")) (v:K.lookup N=some oN) (o:Hx.nsO oN=true) (i:nsIn K N "__init__" = some none)
   (ga:findIn K (.ref C) "__getattribute__" = some (some (.builtin "BaseException.__getattribute__"))) (gb:findIn K (.ref C) "__getattr__" = some none) (gc:findIn K (.ref C) "__class__" = some (some (.builtin "object.__class__"))) (gd:mroIn K C (.type "object")=some true) (ge:mroIn K C (.type "BaseException")=some true)
   (sS:subIn K (.ref C) (.ref SM)=some true) (nx:(Value.ref C == Value.ref SM)=false) (sV:subIn K (.ref C) (.type "ValueError")=some true):uW K SM C:=⟨⟨_,_,_,_,_,_,_,_,_,_,_,_,_,_,_,_,w,v,o,i⟩,ga,gb,gc,gd,ge,sS,nx,sV⟩
noncomputable def A6 (K:PySem.W.Frag) (C:Addr):Prop:=∃ dd cd sl,K.lookup C=some ⟨.type "type",dd,.cls cd,sl⟩
inductive Tys (K:PySem.W.Frag):List Addr->Prop
 | nil:Tys K []
 | cons {C:Addr} {Cs:List Addr} {dd:Option Addr} {cd:ClassData} {sl:Array (Option Value)} (h:K.lookup C=some ⟨.type "type",dd,.cls cd,sl⟩) (r:Tys K Cs):Tys K (C :: Cs)
inductive Nss (K:PySem.W.Frag):List Str->List Addr->Prop
 | nil:Nss K [] []
 | cons {n:Str} {ns:List Str} {C:Addr} {Cs:List Addr} (h:nsIn K mainGlobals n=some (some (.ref C))) (r:Nss K ns Cs):Nss K (n :: ns) (C :: Cs)
inductive Off (K:PySem.W.Frag) (C:Addr):List Addr->Prop
 | nil:Off K C []
 | cons {D:Addr} {Ds:List Addr} (n:(Value.ref C == Value.ref D)=false) (s:subIn K (.ref C) (.ref D)=some false) (r:Off K C Ds):Off K C (D :: Ds)
theorem Tys.at_ {K:PySem.W.Frag}:∀ {Cs:List Addr} {i:Nat},Tys K Cs->i < Cs.length->A6 K (Cs.getD i 0)
 | _ :: _,0,.cons h _,_=>⟨_,_,_,h⟩
 | _ :: _,i + 1,.cons _ r,h=>Tys.at_ (i:=i) r (Nat.lt_of_succ_lt_succ h)
theorem Nss.at_ {K:PySem.W.Frag}:∀ {ns:List Str} {Cs:List Addr} {i:Nat},Nss K ns Cs->i < Cs.length->nsIn K mainGlobals (ns.getD i "")=some (some (.ref (Cs.getD i 0)))
 | _,_ :: _,0,.cons h _,_=>h
 | _,_ :: _,i + 1,.cons _ r,h=>Nss.at_ (i:=i) r (Nat.lt_of_succ_lt_succ h)
theorem Off.at_ {K:PySem.W.Frag} {C:Addr}:∀ {Ds:List Addr} {i:Nat},Off K C Ds->i < Ds.length->(Value.ref C == Value.ref (Ds.getD i 0))=false/\subIn K (.ref C) (.ref (Ds.getD i 0))=some false
 | _ :: _,0,.cons n s _,_=>⟨n,s⟩
 | _ :: _,i + 1,.cons _ _ r,h=>Off.at_ (i:=i) r (Nat.lt_of_succ_lt_succ h)
theorem Bg {K:PySem.W.Frag} {h:Heap} {mg:Str->Option Value} {SM:Addr} {Cs:List Addr} {ns:List Str} {cs:List Nat} (X:K.In h) (G:h.Ns mainGlobals mg) (aS:nsIn K mainGlobals "SmoothError" = some (some (.ref SM))) (S:wW K SM) (zV:nsIn K mainGlobals "ValueError" = some none) (gG:specialIn K (.builtin "object.__class__") "__get__" = some (some (.builtin "getset_descriptor.__get__"))) (gT:takesIn K (.builtin "object.__class__")=some true) (N:Nss K ns Cs) (hn:∀ i,i < 19->wordOf i=ns.getD i "") (T:Tys K Cs) (hl:Cs.length=19)
   (R:∀ c ∈ cs,c < 19/\uW K SM (Cs.getD c 0)/\Off K (Cs.getD c 0) (Cs.take c)/\Off K (Cs.getD c 0) (Cs.drop (c + 1))):∃ cl,Cls K mg cl cs:=by
 obtain ⟨ddS,cdS,slS,oNS,lS,nS,oS,iS,bS⟩:=S
 refine ⟨λc=>Cs.getD c 0,λc hc=>(R c hc).1,⟨SM,PySem.W.mg_of X G aS,λc hc=>?_⟩,λc hc=>?_,λc hc i hi=>?_,λc hc=>xC (R c hc).2.1.sV,PySem.W.mg_none_of X G zV⟩
 · have r:=(R c hc).2.1
   obtain ⟨dd,cd,sl,w⟩:=T.at_ (i:=c) (by rw [hl]; exact (R c hc).1)
   exact ⟨⟨r.obj,⟨_,_,_,_,_,lS,nS,oS,iS⟩,⟨by unfold PySem.W.clsIn; rw [w]; rfl,r.ga,r.gb,r.gc,gG,gT,r.gd,r.ge⟩⟩,Ay bS (pP r.nx lS r.sS).1⟩
 · have:=N.at_ (i:=c) (by rw [hl]; exact hc)
   rw [<- hn c hc] at this
   exact PySem.W.mg_of X G this
 · obtain ⟨c9,r,o1,o2⟩:=R c hc
   obtain ⟨dd,cd,sl,w⟩:=T.at_ (i:=i) (by rw [hl]; exact hi)
   rcases Nat.lt_trichotomy c i with z | z | z
   · obtain ⟨n,s⟩:=o2.at_ (i:=i - (c + 1)) (by rw [List.length_drop,hl]; omega)
     have e:(Cs.drop (c + 1)).getD (i - (c + 1)) 0=Cs.getD i 0:=by
       rw [List.getD,List.getD,List.getElem?_drop,show c + 1 + (i - (c + 1))=i by omega]
     rw [e] at n s
     rw [decide_eq_false (by omega)]
     exact (pP n w s).2
   · subst z
     rw [decide_eq_true rfl]
     exact vj
   · obtain ⟨n,s⟩:=o1.at_ (i:=i) (by rw [List.length_take,hl]; omega)
     have e:(Cs.take c).getD i 0=Cs.getD i 0:=by
       rw [List.getD,List.getD,List.getElem?_take,if_pos z]
     rw [e] at n s
     rw [decide_eq_false (by omega)]
     exact (pP n w s).2
section
variable {P:Program} {w:World} {K:PySem.W.Frag} {mg:Str->Option Value} {base:Heap} {k:Nat} {f:Addr} {fd:FuncData} {qual:Str}
end
end K59
namespace K59
open PySem PySem.Spec PyProof.Rows L2 Hy
open Ev (D Den aq aC aB)
noncomputable def fO (ds:List D) (r:Sl):Prop:=∃ (x:D) (told:Bool) (c:Nat),ds=[x,.bl told]/\((sx x=false/\c=1)\/(told=false/\u3 x/\c=12))/\r=.d (.str (wordOf c))
section
variable {P:Program} {w:World} {K:PySem.W.Frag} {mg:Str->Option Value} {base:Heap} {k:Nat} {f:Addr} {fd:FuncData} {qual:Str}
theorem mn {cl:Nat->Addr} {cs:List Nat} {fw:Addr} (F:Fun K "_law_refused" qual (top 73) f fd) (hb:∀ x ∈ aj,mg x=none) (Z:Cls K mg cl cs) (hcs:∀ c,c=1\/c=12->c ∈ cs) (hm:mg "_law_word" = some (.ref fw)) (hk:PySem.W.keepIn K (.ref fw)=true) (hW:∀ c ∈ cs,eQ P w K mg base cl k fw c) (x_corners:jw P w K mg base cl k "corners" j1) (x_made_by:jw P w K mg base cl k "made_by" Am):aN P w K mg base CX0 (k + 1) f fd ["_law_table_here","_law_told"] (spD K fO):=by
 obtain ⟨S,hS,hx⟩:=Z.ex
 refine fnD F ir hb (by rintro _ _ ⟨_,_,_,rfl,_⟩; rfl) ?_
 have nd:=ir.nd
 rintro _ _ ⟨x,told,c,rfl,h,rfl⟩ cdv A outer s H E b
 have kc:=hcs c (by rcases h with ⟨_,h⟩ | ⟨_,_,h⟩ <;> simp [h])
 refine y6 b nd (λpins E Ex ps=>?_) rfl hS (hx c kc).2 hm hk (hW c kc) 2
 refine mP (M:=λ_=>False) (bC (aa 1)) (λz=>?_) (λz=>?_) λ_ z=>z.elim
 · subst z
   rcases h with ⟨h,rfl⟩ | ⟨h,_⟩
   · exact jF (jG (c:=1) (C:=false) b.room ps x_corners (ae (aa 0) ag) ⟨x,rfl,h,rfl⟩)
   · cases h
 · refine jF (jG (c:=c) (C:=false) b.room ps x_made_by (ae (aa 0) ag) ⟨x,rfl,?_⟩)
   rcases h with h | ⟨_,h⟩
   · exact .inl h
   · exact .inr h
end
noncomputable def prL (L:List Int):Int:=L.foldr (· * ·) 1
theorem pG {b:Nat}:∀ {L:List Int},(∀ x ∈ L,x.natAbs<=2 ^ b)->(prL L).natAbs<=2 ^ (b * L.length)
 | [],_=>by show 1<=_; exact Nat.one_le_two_pow
 | x :: L,h=>by
   show (x * prL L).natAbs<=2 ^ (b * (L.length + 1))
   rw [Nat.mul_succ,Nat.add_comm]
   exact gj (h x (by simp)) (pG λy hy=>h y (by simp [hy]))
structure K3 (c:Nat->Nat->Rat) (F G:Nat->Nat->Int):Prop where
 ne:∀ i j,c i j ≠ 0
 g0:∀ i j,0 < G i j
 gb:∀ i j,(G i j).natAbs<=2 ^ 133
 fb:∀ i j,(F i j).natAbs<=2 ^ 133
 eq:∀ i j,((F i j:Int):Rat)=c i j * (G i j:Rat)
noncomputable def k3D (F G:Nat->Nat->Int):Int:=prL [F 0 0,F 0 1,F 1 0,F 1 1,G 0 0,G 0 1,G 0 2,G 1 0,G 1 1,G 1 2,G 2 0,G 2 1,G 2 2]
noncomputable def Mo (F G:Nat->Nat->Int) (q:Rat):Prop:=∃ z:Int,(z:Rat)=q * (k3D F G:Rat)/\z.natAbs<=2 ^ 1729
theorem Mo.of {F G:Nat->Nat->Int} {N M E:Rat} {L:List Int} (hM:M ≠ 0) (hD:(k3D F G:Rat)=M * E) (hz:((prL L:Int):Rat)=N * E) (hb:∀ x ∈ L,x.natAbs<=2 ^ 133) (hl:L.length=13):Mo F G (N / M):=by
 refine ⟨prL L,?_,?_⟩
 · rw [hD,hz,<- Rat.mul_assoc,Rat.div_mul_cancel hM]
 · have:=pG hb
   rwa [hl] at this
theorem du {x y:Rat} (h:x ≠ 0) (g:y ≠ 0):x * y ≠ 0:=λz=>(Rat.mul_eq_zero.mp z).elim h g
section
variable {c:Nat->Nat->Rat} {F G:Nat->Nat->Int}
theorem uS (h:K3 c F G):Mo F G ((c 1 0 * c 0 1) / (c 0 0)):=by
 refine Mo.of (E:=(G 0 0:Rat) * (F 0 1:Rat) * (F 1 0:Rat) * (F 1 1:Rat) * (G 0 0:Rat) * (G 0 1:Rat) * (G 0 2:Rat) * (G 1 0:Rat) * (G 1 1:Rat) * (G 1 2:Rat) * (G 2 0:Rat) * (G 2 1:Rat) * (G 2 2:Rat)) (L:=[F 1 0,F 0 1,G 0 0,F 0 1,F 1 0,F 1 1,G 0 0,G 0 2,G 1 1,G 1 2,G 2 0,G 2 1,G 2 2]) (h.ne 0 0) ?_ ?_ (λx hx=>?_) rfl
 · simp only [k3D,prL,List.foldr,Rat.intCast_mul,h.eq 0 0,h.eq 0 1,h.eq 1 0,h.eq 1 1]
   grind
 · simp only [prL,List.foldr,Rat.intCast_mul,h.eq 0 0,h.eq 0 1,h.eq 1 0,h.eq 1 1]
   grind
 · simp only [List.mem_cons,List.not_mem_nil,or_false] at hx
   rcases hx with rfl | rfl | rfl | rfl | rfl | rfl | rfl | rfl | rfl | rfl | rfl | rfl | rfl <;> first | exact h.fb _ _ | exact h.gb _ _
theorem AR (h:K3 c F G):Mo F G ((c 1 1) / (c 0 0)):=by
 refine Mo.of (E:=(G 0 0:Rat) * (F 0 1:Rat) * (F 1 0:Rat) * (F 1 1:Rat) * (G 0 0:Rat) * (G 0 1:Rat) * (G 0 2:Rat) * (G 1 0:Rat) * (G 1 1:Rat) * (G 1 2:Rat) * (G 2 0:Rat) * (G 2 1:Rat) * (G 2 2:Rat)) (L:=[F 1 1,G 0 0,F 0 1,F 1 0,F 1 1,G 0 0,G 0 1,G 0 2,G 1 0,G 1 2,G 2 0,G 2 1,G 2 2]) (h.ne 0 0) ?_ ?_ (λx hx=>?_) rfl
 · simp only [k3D,prL,List.foldr,Rat.intCast_mul,h.eq 0 0,h.eq 0 1,h.eq 1 0,h.eq 1 1]
   grind
 · simp only [prL,List.foldr,Rat.intCast_mul,h.eq 0 0,h.eq 0 1,h.eq 1 0,h.eq 1 1]
   grind
 · simp only [List.mem_cons,List.not_mem_nil,or_false] at hx
   rcases hx with rfl | rfl | rfl | rfl | rfl | rfl | rfl | rfl | rfl | rfl | rfl | rfl | rfl <;> first | exact h.fb _ _ | exact h.gb _ _
theorem v3 (h:K3 c F G):Mo F G ((c 1 0 * c 0 2) / (c 0 0)):=by
 refine Mo.of (E:=(G 0 0:Rat) * (F 0 1:Rat) * (F 1 0:Rat) * (F 1 1:Rat) * (G 0 0:Rat) * (G 0 1:Rat) * (G 0 2:Rat) * (G 1 0:Rat) * (G 1 1:Rat) * (G 1 2:Rat) * (G 2 0:Rat) * (G 2 1:Rat) * (G 2 2:Rat)) (L:=[F 1 0,F 0 2,G 0 0,F 0 1,F 1 0,F 1 1,G 0 0,G 0 1,G 1 1,G 1 2,G 2 0,G 2 1,G 2 2]) (h.ne 0 0) ?_ ?_ (λx hx=>?_) rfl
 · simp only [k3D,prL,List.foldr,Rat.intCast_mul,h.eq 0 0,h.eq 0 1,h.eq 0 2,h.eq 1 0,h.eq 1 1]
   grind
 · simp only [prL,List.foldr,Rat.intCast_mul,h.eq 0 0,h.eq 0 1,h.eq 0 2,h.eq 1 0,h.eq 1 1]
   grind
 · simp only [List.mem_cons,List.not_mem_nil,or_false] at hx
   rcases hx with rfl | rfl | rfl | rfl | rfl | rfl | rfl | rfl | rfl | rfl | rfl | rfl | rfl <;> first | exact h.fb _ _ | exact h.gb _ _
theorem qo (h:K3 c F G):Mo F G ((c 0 2 * c 1 1) / (c 0 0 * c 0 1)):=by
 refine Mo.of (E:=(G 0 0:Rat) * (G 0 1:Rat) * (F 1 0:Rat) * (F 1 1:Rat) * (G 0 0:Rat) * (G 0 1:Rat) * (G 0 2:Rat) * (G 1 0:Rat) * (G 1 1:Rat) * (G 1 2:Rat) * (G 2 0:Rat) * (G 2 1:Rat) * (G 2 2:Rat)) (L:=[F 0 2,F 1 1,G 0 0,G 0 1,F 1 0,F 1 1,G 0 0,G 0 1,G 1 0,G 1 2,G 2 0,G 2 1,G 2 2]) (du (h.ne 0 0) (h.ne 0 1)) ?_ ?_ (λx hx=>?_) rfl
 · simp only [k3D,prL,List.foldr,Rat.intCast_mul,h.eq 0 0,h.eq 0 1,h.eq 0 2,h.eq 1 0,h.eq 1 1]
   grind
 · simp only [prL,List.foldr,Rat.intCast_mul,h.eq 0 0,h.eq 0 1,h.eq 0 2,h.eq 1 0,h.eq 1 1]
   grind
 · simp only [List.mem_cons,List.not_mem_nil,or_false] at hx
   rcases hx with rfl | rfl | rfl | rfl | rfl | rfl | rfl | rfl | rfl | rfl | rfl | rfl | rfl <;> first | exact h.fb _ _ | exact h.gb _ _
theorem Ax (h:K3 c F G):Mo F G ((c 1 2) / (c 0 1)):=by
 refine Mo.of (E:=(G 0 1:Rat) * (F 0 0:Rat) * (F 1 0:Rat) * (F 1 1:Rat) * (G 0 0:Rat) * (G 0 1:Rat) * (G 0 2:Rat) * (G 1 0:Rat) * (G 1 1:Rat) * (G 1 2:Rat) * (G 2 0:Rat) * (G 2 1:Rat) * (G 2 2:Rat)) (L:=[F 1 2,G 0 1,F 0 0,F 1 0,F 1 1,G 0 0,G 0 1,G 0 2,G 1 0,G 1 1,G 2 0,G 2 1,G 2 2]) (h.ne 0 1) ?_ ?_ (λx hx=>?_) rfl
 · simp only [k3D,prL,List.foldr,Rat.intCast_mul,h.eq 0 0,h.eq 0 1,h.eq 1 0,h.eq 1 1,h.eq 1 2]
   grind
 · simp only [prL,List.foldr,Rat.intCast_mul,h.eq 0 0,h.eq 0 1,h.eq 1 0,h.eq 1 1,h.eq 1 2]
   grind
 · simp only [List.mem_cons,List.not_mem_nil,or_false] at hx
   rcases hx with rfl | rfl | rfl | rfl | rfl | rfl | rfl | rfl | rfl | rfl | rfl | rfl | rfl <;> first | exact h.fb _ _ | exact h.gb _ _
theorem uE (h:K3 c F G):Mo F G ((c 2 0 * c 0 1) / (c 0 0)):=by
 refine Mo.of (E:=(G 0 0:Rat) * (F 0 1:Rat) * (F 1 0:Rat) * (F 1 1:Rat) * (G 0 0:Rat) * (G 0 1:Rat) * (G 0 2:Rat) * (G 1 0:Rat) * (G 1 1:Rat) * (G 1 2:Rat) * (G 2 0:Rat) * (G 2 1:Rat) * (G 2 2:Rat)) (L:=[F 2 0,F 0 1,G 0 0,F 0 1,F 1 0,F 1 1,G 0 0,G 0 2,G 1 0,G 1 1,G 1 2,G 2 1,G 2 2]) (h.ne 0 0) ?_ ?_ (λx hx=>?_) rfl
 · simp only [k3D,prL,List.foldr,Rat.intCast_mul,h.eq 0 0,h.eq 0 1,h.eq 1 0,h.eq 1 1,h.eq 2 0]
   grind
 · simp only [prL,List.foldr,Rat.intCast_mul,h.eq 0 0,h.eq 0 1,h.eq 1 0,h.eq 1 1,h.eq 2 0]
   grind
 · simp only [List.mem_cons,List.not_mem_nil,or_false] at hx
   rcases hx with rfl | rfl | rfl | rfl | rfl | rfl | rfl | rfl | rfl | rfl | rfl | rfl | rfl <;> first | exact h.fb _ _ | exact h.gb _ _
theorem p6 (h:K3 c F G):Mo F G ((c 2 0 * c 1 1) / (c 0 0 * c 1 0)):=by
 refine Mo.of (E:=(G 0 0:Rat) * (G 1 0:Rat) * (F 0 1:Rat) * (F 1 1:Rat) * (G 0 0:Rat) * (G 0 1:Rat) * (G 0 2:Rat) * (G 1 0:Rat) * (G 1 1:Rat) * (G 1 2:Rat) * (G 2 0:Rat) * (G 2 1:Rat) * (G 2 2:Rat)) (L:=[F 2 0,F 1 1,G 0 0,G 1 0,F 0 1,F 1 1,G 0 0,G 0 1,G 0 2,G 1 0,G 1 2,G 2 1,G 2 2]) (du (h.ne 0 0) (h.ne 1 0)) ?_ ?_ (λx hx=>?_) rfl
 · simp only [k3D,prL,List.foldr,Rat.intCast_mul,h.eq 0 0,h.eq 0 1,h.eq 1 0,h.eq 1 1,h.eq 2 0]
   grind
 · simp only [prL,List.foldr,Rat.intCast_mul,h.eq 0 0,h.eq 0 1,h.eq 1 0,h.eq 1 1,h.eq 2 0]
   grind
 · simp only [List.mem_cons,List.not_mem_nil,or_false] at hx
   rcases hx with rfl | rfl | rfl | rfl | rfl | rfl | rfl | rfl | rfl | rfl | rfl | rfl | rfl <;> first | exact h.fb _ _ | exact h.gb _ _
theorem y9 (h:K3 c F G):Mo F G ((c 2 1) / (c 1 0)):=by
 refine Mo.of (E:=(G 1 0:Rat) * (F 0 0:Rat) * (F 0 1:Rat) * (F 1 1:Rat) * (G 0 0:Rat) * (G 0 1:Rat) * (G 0 2:Rat) * (G 1 0:Rat) * (G 1 1:Rat) * (G 1 2:Rat) * (G 2 0:Rat) * (G 2 1:Rat) * (G 2 2:Rat)) (L:=[F 2 1,G 1 0,F 0 0,F 0 1,F 1 1,G 0 0,G 0 1,G 0 2,G 1 0,G 1 1,G 1 2,G 2 0,G 2 2]) (h.ne 1 0) ?_ ?_ (λx hx=>?_) rfl
 · simp only [k3D,prL,List.foldr,Rat.intCast_mul,h.eq 0 0,h.eq 0 1,h.eq 1 0,h.eq 1 1,h.eq 2 1]
   grind
 · simp only [prL,List.foldr,Rat.intCast_mul,h.eq 0 0,h.eq 0 1,h.eq 1 0,h.eq 1 1,h.eq 2 1]
   grind
 · simp only [List.mem_cons,List.not_mem_nil,or_false] at hx
   rcases hx with rfl | rfl | rfl | rfl | rfl | rfl | rfl | rfl | rfl | rfl | rfl | rfl | rfl <;> first | exact h.fb _ _ | exact h.gb _ _
theorem vv (h:K3 c F G):Mo F G ((c 2 0 * c 0 2) / (c 0 0)):=by
 refine Mo.of (E:=(G 0 0:Rat) * (F 0 1:Rat) * (F 1 0:Rat) * (F 1 1:Rat) * (G 0 0:Rat) * (G 0 1:Rat) * (G 0 2:Rat) * (G 1 0:Rat) * (G 1 1:Rat) * (G 1 2:Rat) * (G 2 0:Rat) * (G 2 1:Rat) * (G 2 2:Rat)) (L:=[F 2 0,F 0 2,G 0 0,F 0 1,F 1 0,F 1 1,G 0 0,G 0 1,G 1 0,G 1 1,G 1 2,G 2 1,G 2 2]) (h.ne 0 0) ?_ ?_ (λx hx=>?_) rfl
 · simp only [k3D,prL,List.foldr,Rat.intCast_mul,h.eq 0 0,h.eq 0 1,h.eq 0 2,h.eq 1 0,h.eq 1 1,h.eq 2 0]
   grind
 · simp only [prL,List.foldr,Rat.intCast_mul,h.eq 0 0,h.eq 0 1,h.eq 0 2,h.eq 1 0,h.eq 1 1,h.eq 2 0]
   grind
 · simp only [List.mem_cons,List.not_mem_nil,or_false] at hx
   rcases hx with rfl | rfl | rfl | rfl | rfl | rfl | rfl | rfl | rfl | rfl | rfl | rfl | rfl <;> first | exact h.fb _ _ | exact h.gb _ _
theorem jK (h:K3 c F G):Mo F G ((c 2 0 * c 0 2 * c 1 1) / (c 0 0 * c 1 0 * c 0 1)):=by
 refine Mo.of (E:=(G 0 0:Rat) * (G 1 0:Rat) * (G 0 1:Rat) * (F 1 1:Rat) * (G 0 0:Rat) * (G 0 1:Rat) * (G 0 2:Rat) * (G 1 0:Rat) * (G 1 1:Rat) * (G 1 2:Rat) * (G 2 0:Rat) * (G 2 1:Rat) * (G 2 2:Rat)) (L:=[F 2 0,F 0 2,F 1 1,G 0 0,G 1 0,G 0 1,F 1 1,G 0 0,G 0 1,G 1 0,G 1 2,G 2 1,G 2 2]) (du (du (h.ne 0 0) (h.ne 1 0)) (h.ne 0 1)) ?_ ?_ (λx hx=>?_) rfl
 · simp only [k3D,prL,List.foldr,Rat.intCast_mul,h.eq 0 0,h.eq 0 1,h.eq 0 2,h.eq 1 0,h.eq 1 1,h.eq 2 0]
   grind
 · simp only [prL,List.foldr,Rat.intCast_mul,h.eq 0 0,h.eq 0 1,h.eq 0 2,h.eq 1 0,h.eq 1 1,h.eq 2 0]
   grind
 · simp only [List.mem_cons,List.not_mem_nil,or_false] at hx
   rcases hx with rfl | rfl | rfl | rfl | rfl | rfl | rfl | rfl | rfl | rfl | rfl | rfl | rfl <;> first | exact h.fb _ _ | exact h.gb _ _
theorem qf (h:K3 c F G):Mo F G ((c 2 0 * c 1 2) / (c 0 1 * c 1 0)):=by
 refine Mo.of (E:=(G 0 1:Rat) * (G 1 0:Rat) * (F 0 0:Rat) * (F 1 1:Rat) * (G 0 0:Rat) * (G 0 1:Rat) * (G 0 2:Rat) * (G 1 0:Rat) * (G 1 1:Rat) * (G 1 2:Rat) * (G 2 0:Rat) * (G 2 1:Rat) * (G 2 2:Rat)) (L:=[F 2 0,F 1 2,G 0 1,G 1 0,F 0 0,F 1 1,G 0 0,G 0 1,G 0 2,G 1 0,G 1 1,G 2 1,G 2 2]) (du (h.ne 0 1) (h.ne 1 0)) ?_ ?_ (λx hx=>?_) rfl
 · simp only [k3D,prL,List.foldr,Rat.intCast_mul,h.eq 0 0,h.eq 0 1,h.eq 1 0,h.eq 1 1,h.eq 1 2,h.eq 2 0]
   grind
 · simp only [prL,List.foldr,Rat.intCast_mul,h.eq 0 0,h.eq 0 1,h.eq 1 0,h.eq 1 1,h.eq 1 2,h.eq 2 0]
   grind
 · simp only [List.mem_cons,List.not_mem_nil,or_false] at hx
   rcases hx with rfl | rfl | rfl | rfl | rfl | rfl | rfl | rfl | rfl | rfl | rfl | rfl | rfl <;> first | exact h.fb _ _ | exact h.gb _ _
theorem pV (h:K3 c F G):Mo F G ((c 0 2 * c 2 1) / (c 1 0 * c 0 1)):=by
 refine Mo.of (E:=(G 1 0:Rat) * (G 0 1:Rat) * (F 0 0:Rat) * (F 1 1:Rat) * (G 0 0:Rat) * (G 0 1:Rat) * (G 0 2:Rat) * (G 1 0:Rat) * (G 1 1:Rat) * (G 1 2:Rat) * (G 2 0:Rat) * (G 2 1:Rat) * (G 2 2:Rat)) (L:=[F 0 2,F 2 1,G 1 0,G 0 1,F 0 0,F 1 1,G 0 0,G 0 1,G 1 0,G 1 1,G 1 2,G 2 0,G 2 2]) (du (h.ne 1 0) (h.ne 0 1)) ?_ ?_ (λx hx=>?_) rfl
 · simp only [k3D,prL,List.foldr,Rat.intCast_mul,h.eq 0 0,h.eq 0 1,h.eq 0 2,h.eq 1 0,h.eq 1 1,h.eq 2 1]
   grind
 · simp only [prL,List.foldr,Rat.intCast_mul,h.eq 0 0,h.eq 0 1,h.eq 0 2,h.eq 1 0,h.eq 1 1,h.eq 2 1]
   grind
 · simp only [List.mem_cons,List.not_mem_nil,or_false] at hx
   rcases hx with rfl | rfl | rfl | rfl | rfl | rfl | rfl | rfl | rfl | rfl | rfl | rfl | rfl <;> first | exact h.fb _ _ | exact h.gb _ _
theorem kF (h:K3 c F G):Mo F G ((c 2 1 * c 1 2 * c 0 0) / (c 1 0 * c 0 1 * c 1 1)):=by
 refine Mo.of (E:=(G 1 0:Rat) * (G 0 1:Rat) * (G 1 1:Rat) * (F 0 0:Rat) * (G 0 0:Rat) * (G 0 1:Rat) * (G 0 2:Rat) * (G 1 0:Rat) * (G 1 1:Rat) * (G 1 2:Rat) * (G 2 0:Rat) * (G 2 1:Rat) * (G 2 2:Rat)) (L:=[F 2 1,F 1 2,F 0 0,G 1 0,G 0 1,G 1 1,F 0 0,G 0 1,G 0 2,G 1 0,G 1 1,G 2 0,G 2 2]) (du (du (h.ne 1 0) (h.ne 0 1)) (h.ne 1 1)) ?_ ?_ (λx hx=>?_) rfl
 · simp only [k3D,prL,List.foldr,Rat.intCast_mul,h.eq 0 0,h.eq 0 1,h.eq 1 0,h.eq 1 1,h.eq 1 2,h.eq 2 1]
   grind
 · simp only [prL,List.foldr,Rat.intCast_mul,h.eq 0 0,h.eq 0 1,h.eq 1 0,h.eq 1 1,h.eq 1 2,h.eq 2 1]
   grind
 · simp only [List.mem_cons,List.not_mem_nil,or_false] at hx
   rcases hx with rfl | rfl | rfl | rfl | rfl | rfl | rfl | rfl | rfl | rfl | rfl | rfl | rfl <;> first | exact h.fb _ _ | exact h.gb _ _
theorem AV (h:K3 c F G):Mo F G ((c 2 2) / (c 1 1)):=by
 refine Mo.of (E:=(G 1 1:Rat) * (F 0 0:Rat) * (F 0 1:Rat) * (F 1 0:Rat) * (G 0 0:Rat) * (G 0 1:Rat) * (G 0 2:Rat) * (G 1 0:Rat) * (G 1 1:Rat) * (G 1 2:Rat) * (G 2 0:Rat) * (G 2 1:Rat) * (G 2 2:Rat)) (L:=[F 2 2,G 1 1,F 0 0,F 0 1,F 1 0,G 0 0,G 0 1,G 0 2,G 1 0,G 1 1,G 1 2,G 2 0,G 2 1]) (h.ne 1 1) ?_ ?_ (λx hx=>?_) rfl
 · simp only [k3D,prL,List.foldr,Rat.intCast_mul,h.eq 0 0,h.eq 0 1,h.eq 1 0,h.eq 1 1,h.eq 2 2]
   grind
 · simp only [prL,List.foldr,Rat.intCast_mul,h.eq 0 0,h.eq 0 1,h.eq 1 0,h.eq 1 1,h.eq 2 2]
   grind
 · simp only [List.mem_cons,List.not_mem_nil,or_false] at hx
   rcases hx with rfl | rfl | rfl | rfl | rfl | rfl | rfl | rfl | rfl | rfl | rfl | rfl | rfl <;> first | exact h.fb _ _ | exact h.gb _ _
theorem Di (h:K3 c F G):Mo F G ((c 0 0) / (1)):=by
 refine Mo.of (E:=(F 0 0:Rat) * (F 0 1:Rat) * (F 1 0:Rat) * (F 1 1:Rat) * (G 0 0:Rat) * (G 0 1:Rat) * (G 0 2:Rat) * (G 1 0:Rat) * (G 1 1:Rat) * (G 1 2:Rat) * (G 2 0:Rat) * (G 2 1:Rat) * (G 2 2:Rat)) (L:=[F 0 0,F 0 0,F 0 1,F 1 0,F 1 1,G 0 1,G 0 2,G 1 0,G 1 1,G 1 2,G 2 0,G 2 1,G 2 2]) (by decide) ?_ ?_ (λx hx=>?_) rfl
 · simp only [k3D,prL,List.foldr,Rat.intCast_mul,h.eq 0 0,h.eq 0 1,h.eq 1 0,h.eq 1 1]
   grind
 · simp only [prL,List.foldr,Rat.intCast_mul,h.eq 0 0,h.eq 0 1,h.eq 1 0,h.eq 1 1]
   grind
 · simp only [List.mem_cons,List.not_mem_nil,or_false] at hx
   rcases hx with rfl | rfl | rfl | rfl | rfl | rfl | rfl | rfl | rfl | rfl | rfl | rfl | rfl <;> first | exact h.fb _ _ | exact h.gb _ _
theorem CK (h:K3 c F G):Mo F G ((c 0 1) / (1)):=by
 refine Mo.of (E:=(F 0 0:Rat) * (F 0 1:Rat) * (F 1 0:Rat) * (F 1 1:Rat) * (G 0 0:Rat) * (G 0 1:Rat) * (G 0 2:Rat) * (G 1 0:Rat) * (G 1 1:Rat) * (G 1 2:Rat) * (G 2 0:Rat) * (G 2 1:Rat) * (G 2 2:Rat)) (L:=[F 0 1,F 0 0,F 0 1,F 1 0,F 1 1,G 0 0,G 0 2,G 1 0,G 1 1,G 1 2,G 2 0,G 2 1,G 2 2]) (by decide) ?_ ?_ (λx hx=>?_) rfl
 · simp only [k3D,prL,List.foldr,Rat.intCast_mul,h.eq 0 0,h.eq 0 1,h.eq 1 0,h.eq 1 1]
   grind
 · simp only [prL,List.foldr,Rat.intCast_mul,h.eq 0 0,h.eq 0 1,h.eq 1 0,h.eq 1 1]
   grind
 · simp only [List.mem_cons,List.not_mem_nil,or_false] at hx
   rcases hx with rfl | rfl | rfl | rfl | rfl | rfl | rfl | rfl | rfl | rfl | rfl | rfl | rfl <;> first | exact h.fb _ _ | exact h.gb _ _
theorem Dq (h:K3 c F G):Mo F G ((c 0 2) / (1)):=by
 refine Mo.of (E:=(F 0 0:Rat) * (F 0 1:Rat) * (F 1 0:Rat) * (F 1 1:Rat) * (G 0 0:Rat) * (G 0 1:Rat) * (G 0 2:Rat) * (G 1 0:Rat) * (G 1 1:Rat) * (G 1 2:Rat) * (G 2 0:Rat) * (G 2 1:Rat) * (G 2 2:Rat)) (L:=[F 0 2,F 0 0,F 0 1,F 1 0,F 1 1,G 0 0,G 0 1,G 1 0,G 1 1,G 1 2,G 2 0,G 2 1,G 2 2]) (by decide) ?_ ?_ (λx hx=>?_) rfl
 · simp only [k3D,prL,List.foldr,Rat.intCast_mul,h.eq 0 0,h.eq 0 1,h.eq 0 2,h.eq 1 0,h.eq 1 1]
   grind
 · simp only [prL,List.foldr,Rat.intCast_mul,h.eq 0 0,h.eq 0 1,h.eq 0 2,h.eq 1 0,h.eq 1 1]
   grind
 · simp only [List.mem_cons,List.not_mem_nil,or_false] at hx
   rcases hx with rfl | rfl | rfl | rfl | rfl | rfl | rfl | rfl | rfl | rfl | rfl | rfl | rfl <;> first | exact h.fb _ _ | exact h.gb _ _
theorem CQ (h:K3 c F G):Mo F G ((c 1 0) / (1)):=by
 refine Mo.of (E:=(F 0 0:Rat) * (F 0 1:Rat) * (F 1 0:Rat) * (F 1 1:Rat) * (G 0 0:Rat) * (G 0 1:Rat) * (G 0 2:Rat) * (G 1 0:Rat) * (G 1 1:Rat) * (G 1 2:Rat) * (G 2 0:Rat) * (G 2 1:Rat) * (G 2 2:Rat)) (L:=[F 1 0,F 0 0,F 0 1,F 1 0,F 1 1,G 0 0,G 0 1,G 0 2,G 1 1,G 1 2,G 2 0,G 2 1,G 2 2]) (by decide) ?_ ?_ (λx hx=>?_) rfl
 · simp only [k3D,prL,List.foldr,Rat.intCast_mul,h.eq 0 0,h.eq 0 1,h.eq 1 0,h.eq 1 1]
   grind
 · simp only [prL,List.foldr,Rat.intCast_mul,h.eq 0 0,h.eq 0 1,h.eq 1 0,h.eq 1 1]
   grind
 · simp only [List.mem_cons,List.not_mem_nil,or_false] at hx
   rcases hx with rfl | rfl | rfl | rfl | rfl | rfl | rfl | rfl | rfl | rfl | rfl | rfl | rfl <;> first | exact h.fb _ _ | exact h.gb _ _
theorem De (h:K3 c F G):Mo F G ((c 2 0) / (1)):=by
 refine Mo.of (E:=(F 0 0:Rat) * (F 0 1:Rat) * (F 1 0:Rat) * (F 1 1:Rat) * (G 0 0:Rat) * (G 0 1:Rat) * (G 0 2:Rat) * (G 1 0:Rat) * (G 1 1:Rat) * (G 1 2:Rat) * (G 2 0:Rat) * (G 2 1:Rat) * (G 2 2:Rat)) (L:=[F 2 0,F 0 0,F 0 1,F 1 0,F 1 1,G 0 0,G 0 1,G 0 2,G 1 0,G 1 1,G 1 2,G 2 1,G 2 2]) (by decide) ?_ ?_ (λx hx=>?_) rfl
 · simp only [k3D,prL,List.foldr,Rat.intCast_mul,h.eq 0 0,h.eq 0 1,h.eq 1 0,h.eq 1 1,h.eq 2 0]
   grind
 · simp only [prL,List.foldr,Rat.intCast_mul,h.eq 0 0,h.eq 0 1,h.eq 1 0,h.eq 1 1,h.eq 2 0]
   grind
 · simp only [List.mem_cons,List.not_mem_nil,or_false] at hx
   rcases hx with rfl | rfl | rfl | rfl | rfl | rfl | rfl | rfl | rfl | rfl | rfl | rfl | rfl <;> first | exact h.fb _ _ | exact h.gb _ _
end
section
variable {P:Program} {w:World} {K:PySem.W.Frag} {mg:Str->Option Value} {base:Heap} {k:Nat} {f:Addr} {fd:FuncData} {qual:Str}
end
theorem B7 {c:Nat->Nat->Rat} (h:∀ i j,c i j ≠ 0) (n:Nat):nv (n + 2) c 1 1=(c 1 0 * c 0 1) / (c 0 0) + (c 1 1) / (c 0 0):=by
 show c 1 0 * c 0 1 * (1 / c 0 0 + (0 + (0 + nv (n + 1) (dn c) 0 0 / (c 1 0 * c 0 1))))=_
 rw [tM (gB h)]
 show c 1 0 * c 0 1 * (1 / c 0 0 + (0 + (0 + c 1 1 / c 0 0 / (c 1 0 * c 0 1))))=_
 have:=h 0 0
 have:=h 1 0
 have:=h 0 1
 grind
theorem Dc {c:Nat->Nat->Rat} (h:∀ i j,c i j ≠ 0) (n:Nat):nv (n + 2) c 1 2=(c 1 0 * c 0 2) / (c 0 0) + ((c 0 2 * c 1 1) / (c 0 0 * c 0 1) + (c 1 2) / (c 0 1)):=by
 show c 1 0 * c 0 2 * (1 / c 0 0 + (0 + (0 + nv (n + 1) (dn c) 0 0 / (c 1 0 * c 0 1) + nv (n + 1) (dn c) 0 1 / (c 1 0 * c 0 2))))=_
 rw [lZ (gB h) (by omega),lZ (gB h) (by omega)]
 show c 1 0 * c 0 2 * (1 / c 0 0 + (0 + (0 + c 1 1 / c 0 0 / (c 1 0 * c 0 1) + c 1 2 / c 0 1 / (c 1 0 * c 0 2))))=_
 have:=h 0 0
 have:=h 1 0
 have:=h 0 1
 have:=h 0 2
 grind
theorem Dw {c:Nat->Nat->Rat} (h:∀ i j,c i j ≠ 0) (n:Nat):nv (n + 2) c 2 1=(c 2 0 * c 0 1) / (c 0 0) + ((c 2 0 * c 1 1) / (c 0 0 * c 1 0) + (c 2 1) / (c 1 0)):=by
 show c 2 0 * c 0 1 * (1 / c 0 0 + (0 + (0 + nv (n + 1) (dn c) 0 0 / (c 1 0 * c 0 1)) + (0 + nv (n + 1) (dn c) 1 0 / (c 2 0 * c 0 1))))=_
 rw [tM (gB h),tM (gB h)]
 show c 2 0 * c 0 1 * (1 / c 0 0 + (0 + (0 + c 1 1 / c 0 0 / (c 1 0 * c 0 1)) + (0 + c 2 1 / c 1 0 / (c 2 0 * c 0 1))))=_
 have:=h 0 0
 have:=h 1 0
 have:=h 0 1
 have:=h 2 0
 grind
theorem BX {c00 c10 c01 c20 c02 c11 c12 c21 c22:Rat} (h1:c00 ≠ 0) (h2:c10 ≠ 0) (h3:c01 ≠ 0) (h4:c20 ≠ 0) (h5:c02 ≠ 0) (h6:c11 ≠ 0) :
   c20 * c02 * (1 / c00 + (0 + (0 + c11 / c00 / (c10 * c01) + c12 / c01 / (c10 * c02)) + (0 + c21 / c10 / (c20 * c01) + ((c21 / c10 * (c12 / c01)) / (c11 / c00) + (c22 / c00) / (c11 / c00)) / (c20 * c02))))=(c20 * c02) / c00 + ((c20 * c02 * c11) / (c00 * c10 * c01) + ((c20 * c12) / (c01 * c10) + ((c02 * c21) / (c10 * c01) + ((c21 * c12 * c00) / (c10 * c01 * c11) + c22 / c11)))):=by
 have e1:(c21 / c10 * (c12 / c01)) / (c11 / c00)=(c21 * c12 * c00) / (c10 * c01 * c11):=by grind
 have e2:(c22 / c00) / (c11 / c00)=c22 / c11:=by grind
 have e3:c20 * c02 * (1 / c00)=(c20 * c02) / c00:=by grind
 have e4:c20 * c02 * (c11 / c00 / (c10 * c01))=(c20 * c02 * c11) / (c00 * c10 * c01):=by grind
 have e5:c20 * c02 * (c12 / c01 / (c10 * c02))=(c20 * c12) / (c01 * c10):=by grind
 have e6:c20 * c02 * (c21 / c10 / (c20 * c01))=(c02 * c21) / (c10 * c01):=by grind
 have e7:∀ x:Rat,c20 * c02 * (x / (c20 * c02))=x:=λx=>by grind
 rw [e1,e2,Rat.mul_add,Rat.mul_add,Rat.mul_add,Rat.mul_add,Rat.mul_add,Rat.mul_add,Rat.mul_add,e3,e4,e5,e6,e7]
 generalize (c20 * c02) / c00=a1
 generalize (c20 * c02 * c11) / (c00 * c10 * c01)=a2
 generalize (c20 * c12) / (c01 * c10)=a3
 generalize (c02 * c21) / (c10 * c01)=a4
 generalize (c21 * c12 * c00) / (c10 * c01 * c11)=a5
 generalize c22 / c11=a6
 grind
theorem CU {c:Nat->Nat->Rat} (h:∀ i j,c i j ≠ 0) (n:Nat):nv (n + 3) c 2 2=(c 2 0 * c 0 2) / (c 0 0) + ((c 2 0 * c 0 2 * c 1 1) / (c 0 0 * c 1 0 * c 0 1) + ((c 2 0 * c 1 2) / (c 0 1 * c 1 0) + ((c 0 2 * c 2 1) / (c 1 0 * c 0 1) + ((c 2 1 * c 1 2 * c 0 0) / (c 1 0 * c 0 1 * c 1 1) + (c 2 2) / (c 1 1))))):=by
 show c 2 0 * c 0 2 * (1 / c 0 0 + (0 + (0 + nv (n + 2) (dn c) 0 0 / (c 1 0 * c 0 1) + nv (n + 2) (dn c) 0 1 / (c 1 0 * c 0 2)) + (0 + nv (n + 2) (dn c) 1 0 / (c 2 0 * c 0 1) + nv (n + 2) (dn c) 1 1 / (c 2 0 * c 0 2))))=_
 rw [lZ (gB h) (by omega),lZ (gB h) (by omega),tM (gB h),B7 (gB h)]
 show c 2 0 * c 0 2 * (1 / c 0 0 + (0 + (0 + c 1 1 / c 0 0 / (c 1 0 * c 0 1) + c 1 2 / c 0 1 / (c 1 0 * c 0 2)) + (0 + c 2 1 / c 1 0 / (c 2 0 * c 0 1) + ((c 2 1 / c 1 0 * (c 1 2 / c 0 1)) / (c 1 1 / c 0 0) + (c 2 2 / c 0 0) / (c 1 1 / c 0 0)) / (c 2 0 * c 0 2))))=_
 exact BX (h 0 0) (h 1 0) (h 0 1) (h 2 0) (h 0 2) (h 1 1)
noncomputable def Mk (F G:Nat->Nat->Int) (k:Nat) (q:Rat):Prop:=∃ z:Int,(z:Rat)=q * (k3D F G:Rat)/\z.natAbs<=k * 2 ^ 1729
theorem Mo.k {F G:Nat->Nat->Int} {q:Rat} (h:Mo F G q):Mk F G 1 q:=by
 obtain ⟨z,h1,h2⟩:=h
 exact ⟨z,h1,by rw [Nat.one_mul]; exact h2⟩
theorem Mk.add {F G:Nat->Nat->Int} {k l:Nat} {p q:Rat} (h:Mk F G k p) (g:Mk F G l q):Mk F G (k + l) (p + q):=by
 obtain ⟨z,h1,h2⟩:=h
 obtain ⟨y,g1,g2⟩:=g
 refine ⟨z + y,by rw [Rat.intCast_add,h1,g1,Rat.add_mul],?_⟩
 rw [Nat.add_mul]
 exact Nat.le_trans (Int.natAbs_add_le z y) (Nat.add_le_add h2 g2)
theorem Mk.mono {F G:Nat->Nat->Int} {k:Nat} {q:Rat} (h:Mk F G k q) (hk:k<=8):∃ z:Int,(z:Rat)=q * (k3D F G:Rat)/\z.natAbs<=2 ^ 1732:=by
 obtain ⟨z,h1,h2⟩:=h
 refine ⟨z,h1,Nat.le_trans h2 ?_⟩
 rw [show 1732=3 + 1729 from rfl,Nat.pow_add]
 exact Nat.mul_le_mul_right _ hk
theorem uL (q:Rat):q / 1=q:=by grind
section
variable {c:Nat->Nat->Rat} {F G:Nat->Nat->Int}
theorem K3.d0 (h:K3 c F G):k3D F G ≠ 0/\(k3D F G).natAbs<=2 ^ 1729:=by
 have f0:∀ i j,F i j ≠ 0:=λi j z=>by
   have e:=h.eq i j
   rw [z] at e
   rcases Rat.mul_eq_zero.mp e.symm with y | y
   · exact h.ne i j y
   · exact qH (h.g0 i j) y
 have g0:∀ i j,G i j ≠ 0:=λi j=>by have:=h.g0 i j; omega
 constructor
 · unfold k3D prL
   simp only [List.foldr,Int.mul_one]
   repeat' apply Int.mul_ne_zero
   all_goals first | exact f0 _ _ | exact g0 _ _
 · have:=pG (b:=133) (L:=[F 0 0,F 0 1,F 1 0,F 1 1,G 0 0,G 0 1,G 0 2,G 1 0,G 1 1,G 1 2,G 2 0,G 2 1,G 2 2]) λx hx=>by
     simp only [List.mem_cons,List.not_mem_nil,or_false] at hx
     rcases hx with rfl | rfl | rfl | rfl | rfl | rfl | rfl | rfl | rfl | rfl | rfl | rfl | rfl <;> first | exact h.fb _ _ | exact h.gb _ _
   exact this
theorem K3.cell (h:K3 c F G) {n i j:Nat} (hi:i < 3) (hj:j < 3) (hn:min i j < n):∃ z:Int,(z:Rat)=nv n c i j * (k3D F G:Rat)/\z.natAbs<=2 ^ 1732:=by
 by_cases i0:i=0
 · subst i0
   rw [lZ h.ne (by omega)]
   rcases (by omega:j=0\/j=1\/j=2) with rfl | rfl | rfl
   · have:=(Di h).k; rw [uL] at this; exact this.mono (by decide)
   · have:=(CK h).k; rw [uL] at this; exact this.mono (by decide)
   · have:=(Dq h).k; rw [uL] at this; exact this.mono (by decide)
 by_cases j0:j=0
 · subst j0
   rw [t5 h.ne (by omega)]
   rcases (by omega:i=1\/i=2) with rfl | rfl
   · have:=(CQ h).k; rw [uL] at this; exact this.mono (by decide)
   · have:=(De h).k; rw [uL] at this; exact this.mono (by decide)
 rcases (by omega:(i=1/\j=1)\/(i=1/\j=2)\/(i=2/\j=1)\/(i=2/\j=2)) with ⟨rfl,rfl⟩ | ⟨rfl,rfl⟩ | ⟨rfl,rfl⟩ | ⟨rfl,rfl⟩
 · obtain ⟨m,rfl⟩:∃ m,n=m + 2:=⟨n - 2,by omega⟩
   rw [B7 h.ne]
   exact ((uS h).k.add (AR h).k).mono (by decide)
 · obtain ⟨m,rfl⟩:∃ m,n=m + 2:=⟨n - 2,by omega⟩
   rw [Dc h.ne]
   exact ((v3 h).k.add ((qo h).k.add (Ax h).k)).mono (by decide)
 · obtain ⟨m,rfl⟩:∃ m,n=m + 2:=⟨n - 2,by omega⟩
   rw [Dw h.ne]
   exact ((uE h).k.add ((p6 h).k.add (y9 h).k)).mono (by decide)
 · obtain ⟨m,rfl⟩:∃ m,n=m + 3:=⟨n - 3,by omega⟩
   rw [CU h.ne]
   exact ((vv h).k.add ((jK h).k.add ((qf h).k.add ((pV h).k.add ((kF h).k.add (AV h).k))))).mono (by decide)
theorem K3.row (h:K3 c F G) {R C i:Nat} (hR:R<=3) (hC:C<=3) (hi:i < R):Cq C 1729 1732 (nv (min R C) c i):=by
 obtain ⟨d0,d1⟩:=h.d0
 by_cases p:0 < k3D F G
 · exact ⟨_,p,d1,λj hj=>h.cell (by omega) (by omega) (by omega)⟩
 · refine ⟨-k3D F G,by omega,by rw [Int.natAbs_neg]; exact d1,λj hj=>?_⟩
   obtain ⟨z,h1,h2⟩:=h.cell (n:=min R C) (i:=i) (j:=j) (by omega) (by omega) (by omega)
   exact ⟨-z,by rw [Rat.intCast_neg,Rat.intCast_neg,h1]; grind,by rw [Int.natAbs_neg]; exact h2⟩
end
section
variable {P:Program} {w:World} {K:PySem.W.Frag} {mg:Str->Option Value} {base:Heap} {k:Nat} {f:Addr} {fd:FuncData} {qual:Str}
end
noncomputable def szP (c:Int):List Int:=nums c [8,4,4,7,7]
noncomputable def szR (c:Int):Nat:=(1 + (if (szP c).getD 0 0=1 then (szP c).getD 3 0 else (szP c).getD 1 0)).toNat
noncomputable def szC (c:Int):Nat:=(1 + (if (szP c).getD 0 0=1 then (szP c).getD 4 0 else (szP c).getD 2 0)).toNat
theorem fA (c:Int) {i:Nat} (h:i < 5):0<=(szP c).getD i 0/\(szP c).getD i 0 < [8,4,4,7,7].getD i 0:=jA (c:=c) (bs:=[8,4,4,7,7]) (by decide) h
theorem uA (c:Int):1<=szR c/\szR c<=7/\1<=szC c/\szC c<=7:=by
 have h1:=fA c (i:=1) (by decide)
 have h2:=fA c (i:=2) (by decide)
 have h3:=fA c (i:=3) (by decide)
 have h4:=fA c (i:=4) (by decide)
 have e1:([8,4,4,7,7]:List Int).getD 1 0=4:=rfl
 have e2:([8,4,4,7,7]:List Int).getD 2 0=4:=rfl
 have e3:([8,4,4,7,7]:List Int).getD 3 0=7:=rfl
 have e4:([8,4,4,7,7]:List Int).getD 4 0=7:=rfl
 unfold szR szC
 split <;> omega
noncomputable def jO (ds:List D) (r:Sl):Prop:=∃ c:Int,ds=[.int c]/\r=.d (.tup [.int (szR c:Nat),.int (szC c:Nat)])
noncomputable def nmT (kd:Nat) (p:Int):Int:=if kd=1 then p.fmod 5 - 2 else if kd=3 then (p.fdiv 2).fmod (10 ^ 40) * (1 - 2 * p.fmod 2) else if kd=2 then p.fmod 10 else p.fmod 19 - 9
noncomputable def nmB (kd:Nat) (p:Int):Int:=if kd=1 then 1 else if kd=3 then 1 + (p.fdiv (2 * 10 ^ 40)).fmod (10 ^ 40 - 1) else if kd=2 then 1 + (p.fdiv 10).fmod 6 else 1 + (p.fdiv 19).fmod 6
noncomputable def nmQ (kd:Nat) (p:Int):Rat:=if kd=1 then ((p.fmod 5 - 2:Int):Rat) else ((nmT kd p:Int):Rat) / ((nmB kd p:Int):Rat)
noncomputable def kD (kd:Nat):Nat:=if kd=3 then 133 else 3
noncomputable def kV (kd:Nat):Nat:=if kd=3 then 133 else 4
theorem fmn {a b:Int} (h:0 < b):0<=a.fmod b/\a.fmod b < b:=⟨Int.fmod_nonneg_of_pos a h,Int.fmod_lt_of_pos a h⟩
theorem iR {kd:Nat} (p:Int):0 < nmB kd p/\Bd (kD kd) (nmB kd p):=by
 unfold nmB kD
 by_cases h1:kd=1
 · rw [if_pos h1,if_neg (by omega)]; exact ⟨by decide,by unfold Bd; decide⟩
 · rw [if_neg h1]
   by_cases h3:kd=3
   · rw [if_pos h3,if_pos h3]
     have:=fmn (a:=p.fdiv (2 * 10 ^ 40)) (b:=10 ^ 40 - 1) (by decide)
     refine ⟨by omega,?_⟩
     unfold Bd
     have:(10:Int) ^ 40 < 2 ^ 133:=by decide
     have e:((2 ^ 133:Nat):Int)=2 ^ 133:=by decide
     omega
   · rw [if_neg h3,if_neg h3]
     by_cases h2:kd=2
     · rw [if_pos h2]
       have:=fmn (a:=p.fdiv 10) (b:=6) (by decide)
       exact ⟨by omega,by unfold Bd; omega⟩
     · rw [if_neg h2]
       have:=fmn (a:=p.fdiv 19) (b:=6) (by decide)
       exact ⟨by omega,by unfold Bd; omega⟩
theorem vt {kd:Nat} (p:Int):(nmT kd p).natAbs<=2 ^ kV kd:=by
 unfold nmT kV
 by_cases h1:kd=1
 · rw [if_pos h1,if_neg (by omega)]
   have:=fmn (a:=p) (b:=5) (by decide)
   omega
 · rw [if_neg h1]
   by_cases h3:kd=3
   · rw [if_pos h3,if_pos h3]
     have h4:=fmn (a:=p.fdiv 2) (b:=10 ^ 40) (by decide)
     have h5:=fmn (a:=p) (b:=2) (by decide)
     have:(10:Int) ^ 40 < 2 ^ 133:=by decide
     have e:((2 ^ 133:Nat):Int)=2 ^ 133:=by decide
     rw [Int.natAbs_mul,show (1 - 2 * p.fmod 2).natAbs=1 by omega,Nat.mul_one]
     omega
   · rw [if_neg h3,if_neg h3]
     by_cases h2:kd=2
     · rw [if_pos h2]
       have:=fmn (a:=p) (b:=10) (by decide)
       omega
     · rw [if_neg h2]
       have:=fmn (a:=p) (b:=19) (by decide)
       omega
theorem pY {kd:Nat} (p:Int):((nmT kd p:Int):Rat)=nmQ kd p * ((nmB kd p:Int):Rat):=by
 unfold nmQ
 by_cases h1:kd=1
 · rw [if_pos h1]
   unfold nmT nmB
   rw [if_pos h1,if_pos h1]
   exact (Rat.mul_one _).symm
 · rw [if_neg h1]
   exact (Rat.div_mul_cancel (qH (iR p).1)).symm
theorem CA {kd:Nat} (p:Int):Qs (kD kd) (kV kd) (nmQ kd p):=Qs.of (iR p).1 (pY p) (iR p).2 (vt p)
noncomputable def gX (ds:List D) (r:Sl):Prop:=∃ (kd:Nat) (p:Int),ds=[.int (kd:Nat),.int p]/\kd < 4/\r=.d (frD (nmQ kd p))
theorem m40:aC ((2:Int) * 10 ^ 40) (10 ^ 40):=(show Bd 140 ((2:Int) * 10 ^ 40) by unfold Bd; decide).aC (show Bd 140 ((10:Int) ^ 40) by unfold Bd; decide) (by decide) (by decide)
theorem CG:aB ((2:Int) * 10 ^ 40):=(show Bd 140 ((2:Int) * 10 ^ 40) by unfold Bd; decide).aB (by decide) (by decide)
noncomputable def tlB (kd:Nat):Int:=if kd=0 then 114 else if kd=1 then 5 else if kd=2 then 60 else 2 * 10 ^ 40 * 10 ^ 40
noncomputable def tlP (c:Int) (n kd:Nat):List Int:=nums c (List.replicate n (tlB kd))
noncomputable def tlM (c:Int) (R C kd:Nat):List (List Rat):=(List.range R).map λi=>(List.range C).map λj=>nmQ kd ((tlP c (R * C) kd).getD (C * i + j) 0)
theorem Bh {kd:Nat} (h:kd < 4):atI [D.int 114,.int 5,.int 60,.int (2 * 10 ^ 40 * 10 ^ 40)] (kd:Int)=some (.int (tlB kd)):=by
 rcases (by omega:kd=0\/kd=1\/kd=2\/kd=3) with rfl | rfl | rfl | rfl <;> rfl
theorem AS {kd:Nat}:0 < tlB kd/\aB (tlB kd):=by
 unfold tlB
 split
 · exact xT (by decide) (by decide)
 · split
   · exact xT (by decide) (by decide)
   · split
     · exact xT (by decide) (by decide)
     · exact ⟨by decide,(show Bd 280 ((2:Int) * 10 ^ 40 * 10 ^ 40) by unfold Bd; decide +kernel).aB (by decide) (by decide)⟩
noncomputable def i8 (ds:List D) (r:Sl):Prop:=∃ (c:Int) (R C kd:Nat),ds=[.int c,.int (R:Nat),.int (C:Nat),.int (kd:Nat)]/\R<=7/\C<=7/\kd < 4/\r=.n (cT (tlM c R C kd))
section
variable {P:Program} {w:World} {K:PySem.W.Frag} {mg:Str->Option Value} {base:Heap} {k:Nat} {f:Addr} {fd:FuncData} {qual:Str}
theorem sA (F:Fun K "_law_size" qual (top 61) f fd) (hb:∀ x ∈ aj,mg x=none) (c_l_numbers:Cal P w K mg base k "_law_numbers" cJ):aN P w K mg base CX0 (k + 1) f fd ["_law_cell_here"] (spD K jO):=by
 refine fnD F lQ hb (by rintro _ _ ⟨_,rfl,_⟩; rfl) ?_
 rintro _ _ ⟨c,rfl,rfl⟩ cdv A outer s H E b
 have nd:=lQ.nd
 refine aA 1 nd (bu (x_call b c_l_numbers (ae (aa 0) (ae (bu (cw (ae af (ae af (ae af (ae af (ae af ag))))))) ag)) ⟨c,[8,4,4,7,7],rfl,by decide,λx hx=>?_,rfl⟩)) ?_
 · have:0 < x/\x < 9:=by
     simp only [List.mem_cons,List.not_mem_nil,or_false] at hx
     omega
   exact xT this.1 (by omega)
 have ln:(szP c).length=5:=kn c _
 have at_:∀ i:Nat,i < 5->atI ((szP c).map D.int) (i:Int)=some (.int ((szP c).getD i 0)):=λi hi=>atR (by rw [ln]; exact hi)
 have h1:=fA c (i:=1) (by decide)
 have h2:=fA c (i:=2) (by decide)
 have h3:=fA c (i:=3) (by decide)
 have h4:=fA c (i:=4) (by decide)
 refine cv (aZ (aL (aa 1) af (aP (at_ 0 (by decide)))) af fK) (λh=>?_) λh=>?_
 · refine aK (fj (ae (aw af (aL (aa 1) af (aP (at_ 3 (by decide)))) bB) (ae (aw af (aL (aa 1) af (aP (at_ 4 (by decide)))) bB) ag))) ?_
   have h:=of_decide_eq_true h
   have e1:((szR c:Nat):Int)=1 + (szP c).getD 3 0:=by unfold szR; rw [if_pos h]; omega
   have e2:((szC c:Nat):Int)=1 + (szP c).getD 4 0:=by unfold szC; rw [if_pos h]; omega
   rw [e1,e2]
 · refine aK (fj (ae (aw af (aL (aa 1) af (aP (at_ 1 (by decide)))) bB) (ae (aw af (aL (aa 1) af (aP (at_ 2 (by decide)))) bB) ag))) ?_
   have h:=of_decide_eq_false h
   have e1:((szR c:Nat):Int)=1 + (szP c).getD 1 0:=by unfold szR; rw [if_neg h]; omega
   have e2:((szC c:Nat):Int)=1 + (szP c).getD 2 0:=by unfold szC; rw [if_neg h]; omega
   rw [e1,e2]
theorem oo (F:Fun K "_law_number" qual (top 59) f fd) (hb:∀ x ∈ aj,mg x=none) (c_l_made:Cal P w K mg base k "_law_made" kH):aN P w K mg base CX0 (k + 1) f fd ["_law_kind","_law_part"] (spD K gX):=by
 refine fnD F js hb (by rintro _ _ ⟨_,_,rfl,_⟩; rfl) ?_
 rintro _ _ ⟨kd,p,rfl,h4,rfl⟩ cdv A outer s H E b
 have nd:=js.nd
 obtain ⟨b0,b1⟩:=iR (kd:=kd) p
 have b2:Bd 8999 (nmB kd p):=b1.mono (by unfold kD; split <;> decide)
 have hm:=pY (kd:=kd) p
 refine cv (aZ (aa 0) af fK) (λh=>?_) λh=>?_
 · have h1:kd=1:=by have:=of_decide_eq_true h; omega
   refine aK (fj (ae (aw (aw (aa 1) af (b7 (by decide))) af cY) (ae af ag))) ?_
   unfold nmQ
   rw [if_pos h1]
   rfl
 have n1:¬ kd=1:=by have:=of_decide_eq_false h; omega
 refine cv (aZ (aa 0) af fK) (λh=>?_) λh=>?_
 · have h3:kd=3:=by have:=of_decide_eq_true h; omega
   have eT:nmT kd p=(p.fdiv 2).fmod (10 ^ 40) * (1 - 2 * p.fmod 2):=by unfold nmT; rw [if_neg n1,if_pos h3]
   have eB:nmB kd p=1 + (p.fdiv (2 * 10 ^ 40)).fmod (10 ^ 40 - 1):=by unfold nmB; rw [if_neg n1,if_pos h3]
   rw [eT] at hm
   rw [eB] at hm b0 b2
   refine aA 2 nd (aw (aw (aw (aa 1) af (a9 (mkD (by decide) (by decide)))) (aw af af (l3 ⟨by decide,by decide,by decide⟩)) (b7 (by decide))) (aw af (aw af (aw (aa 1) af (b7 (by decide))) (aU (mkL (by decide)))) cY) (aU (mkR ?_))) ?_
   · have:=fmn (a:=p) (b:=2) (by decide); omega
   exact aK (x_call b c_l_made (ae (aa 2) (ae (aw af (aw (aw (aa 1) (aw af (aw af af (l3 ⟨by decide,by decide,by decide⟩)) (aU (mkL (by decide)))) (a9 CG)) (aw (aw af af (l3 ⟨by decide,by decide,by decide⟩)) af cY) (b7 (by decide))) bB) ag)) ⟨_,_,nmQ kd p,rfl,b0,b2,hm,rfl⟩) rfl
 have n3:¬ kd=3:=by have:=of_decide_eq_false h; omega
 refine cv (aZ (aa 0) af fK) (λh=>?_) λh=>?_
 · have h2:kd=2:=by have:=of_decide_eq_true h; omega
   have eT:nmT kd p=p.fmod 10:=by unfold nmT; rw [if_neg n1,if_neg n3,if_pos h2]
   have eB:nmB kd p=1 + (p.fdiv 10).fmod 6:=by unfold nmB; rw [if_neg n1,if_neg n3,if_pos h2]
   rw [eT] at hm
   rw [eB] at hm b0 b2
   exact aK (x_call b c_l_made (ae (aw (aa 1) af (b7 (by decide))) (ae (aw af (aw (aw (aa 1) af (a9 (mkD (by decide) (by decide)))) af (b7 (by decide))) bB) ag)) ⟨_,_,nmQ kd p,rfl,b0,b2,hm,rfl⟩) rfl
 · have n2:¬ kd=2:=by have:=of_decide_eq_false h; omega
   have eT:nmT kd p=p.fmod 19 - 9:=by unfold nmT; rw [if_neg n1,if_neg n3,if_neg n2]
   have eB:nmB kd p=1 + (p.fdiv 19).fmod 6:=by unfold nmB; rw [if_neg n1,if_neg n3,if_neg n2]
   rw [eT] at hm
   rw [eB] at hm b0 b2
   exact aK (x_call b c_l_made (ae (aw (aw (aa 1) af (b7 (by decide))) af cY) (ae (aw af (aw (aw (aa 1) af (a9 (mkD (by decide) (by decide)))) af (b7 (by decide))) bB) ag)) ⟨_,_,nmQ kd p,rfl,b0,b2,hm,rfl⟩) rfl
set_option maxHeartbeats 4000000 in
theorem pR (F:Fun K "_law_table" qual (top 60) f fd) (hb:∀ x ∈ aj,mg x=none) (c_l_numbers:Cal P w K mg base k "_law_numbers" cJ) (c_l_number:Cal P w K mg base k "_law_number" gX):aN P w K mg base CX0 (k + 1) f fd ["_law_cell_here","_law_many","_law_wide","_law_kind"] (spD K i8):=by
 refine fnD F kM hb (by rintro _ _ ⟨_,_,_,_,rfl,_⟩; rfl) ?_
 rintro _ _ ⟨c,R,C,kd,rfl,r7,c7,k4,rfl⟩ cdv A outer s H E b
 have nd:=kM.nd
 have rc:R * C<=49:=Nat.mul_le_mul r7 c7
 have eRC:(R:Int) * (C:Int)=((R * C:Nat):Int):=by rw [Int.natCast_mul]
 refine aA 4 nd (aL (bu (cw (ae af (ae af (ae af (ae (aw (aw af (aw af af (l3 ⟨by decide,by decide,by decide⟩)) (aU (mkL (by decide)))) (aw af af (l3 ⟨by decide,by decide,by decide⟩)) (aU m40)) ag)))))) (aa 3) (aP (Bh k4))) ?_
 refine aA 5 nd (bu (x_call b c_l_numbers (ae (aa 0) (ae (bu (eZ (cmp 0 (f:=λ_=>.int (tlB kd)) b (fJ (n:=((R * C:Nat):Int)) b (by rw [<- eRC]; exact aw (aa 1) (aa 2) (aU (mkL (by omega)))) (by omega) (by omega)) fo (by rw [aF]; omega) λi hi s0 H0 fp=>(aa 1)))) ag)) ⟨c,List.replicate (R * C) (tlB kd),?_,?_,?_,rfl⟩)) ?_
 · rw [aF,Int.toNat_natCast,List.map_replicate]
   refine congrArg (λl=>[D.int c,D.lst l]) (List.ext_getElem (by simp) λi h1 h2=>by simp)
 · rw [List.length_replicate]; omega
 · intro x hx
   rw [(List.mem_replicate.mp hx).2]
   exact AS
 have lp:(tlP c (R * C) kd).length=R * C:=by unfold tlP; rw [kn,List.length_replicate]
 refine aK (Bw (Ab 0 (f:=λi=>.l ((((List.range C).map λj=>nmQ kd ((tlP c (R * C) kd).getD (C * i + j) 0)).map frD).map .d)) b (fJ b (aa 1) (by omega) (by omega)) fo (by rw [aF]; omega) (λi hi s0 H0 fp=>eZ (cmp 0 (f:=λj=>frD (nmQ kd ((tlP c (R * C) kd).getD (C * i + j) 0))) (b.comp s0 H0 _ fp) (fJ (b.comp s0 H0 _ fp) (aa 3) (by omega) (by omega)) fo (by rw [aF]; omega) λj hj s1 H1 fp1=>?_)) λi hi=>?_)) ?_
 · rw [aF,Int.toNat_natCast] at hi
   rw [aF,Int.toNat_natCast] at hj
   have h1:C * i + j < R * C:=by
     have:C * (i + 1)<=C * R:=Nat.mul_le_mul_left _ (by omega)
     rw [Nat.mul_succ,Nat.mul_comm C R] at this
     omega
   have e:(C:Int) * (i:Int) + (j:Int)=((C * i + j:Nat):Int):=by rw [Int.natCast_add,Int.natCast_mul]
   refine x_call ((b.comp s0 H0 _ fp).comp s1 H1 _ fp1) c_l_number (ae (aa 2) (ae (aL (aa 3) (aw (aw (aa 4) (aa 1) (aU (mkL (by omega)))) (aa 0) bB) (aP ?_)) ag)) ⟨kd,_,rfl,k4,rfl⟩
   rw [e]
   exact atR (show C * i + j < (tlP c (R * C) kd).length by rw [lp]; exact h1)
 · refine congrArg (λl:List D=>some (Nd.l (l.map .d))) ?_
   rw [aF,Int.toNat_natCast,List.map_map]
   rfl
 · unfold tlM cT
   rw [aF,Int.toNat_natCast,List.map_map]
   rfl
end
end K59
namespace Hy
open PySem PySem.Spec PyProof.Rows L2
open Ev (D Den aq ak)
section
variable {X:Cx} {τ:List Sl} {e o:Expr} {pos:Pos} {N:Po} {rest:List Stmt} {s:Sl} {c:Nd}
variable {a b:Expr} {x:D} {k:Nat} {ds:List D}
theorem ui {i j:Nat} {pt:List Nat} {t:Nd} {zi:Int} {m:Nat} {ix:Expr} {sp:Pos} (ho:PE X o (dPJ X.K τ i j k pt)) (hx:PE X ix (dE X.K false τ (.d (.int zi)))) (he:PE X e (dE X.K true τ (.d x))) (hi:τ[i]?=some (.n t)) (hp:cM (k :: pt) t=some (.l (ds.map .d))) (hj:ixN ds.length zi=some m)
   (hs:swapsWithSole [.Subscript o ix sp] e pos.line X.env=pure false:=by rfl) (hw:swappedStores [.Subscript o ix sp] e X.env=pure none:=by rfl) (h1:(assignEach [.Subscript o ix sp] X.env).map (·.2)=[assign (.Subscript o ix sp) X.env]:=by rfl)
   (ha:∀ v,assign (.Subscript o ix sp) X.env v=(do
     let ov <- holding [v] (eval o X.env)
     let iv <- holding [v,ov] (eval ix X.env)
     standAt sp
     holding [v,ov,iv] (setItem ov iv v)
     release [v,ov,iv] []):=by intro _; rfl) :
   PS X (.Assign [.Subscript o ix sp] e pos) (dSL X.K τ i j k (τ.set i (.n (b6 (k :: pt) t (.l ((ds.set m x).map .d)))))):=
 psW (mf he (p9 ho hx set_list ha) hs hw h1) λD σ H ⟨A,H₀,B,S,P,fin⟩=>aQ S λv H1 e1 d1=>by
   refine ⟨A,H₀,B,S.mono e1,P.mono e1,λu w H2 eu e2 pv=>aQ ((S.mono e1).mono e2) λy H3 e3 d3=>?_⟩
   have S3:=((S.mono e1).mono e2).mono e3
   have P3:=((P.mono e1).mono e2).mono e3
   obtain ⟨u',l,vs,bs0,eu',pv',hH,r0,nd0,hal,hown,put⟩:=S3.putN hi hp
   rw [eu] at eu'
   cases eu'
   obtain rfl:=(pv.mono e3).det pv'
   cases d3
   obtain ⟨dl,rfl⟩:=gU r0
   refine ⟨l,vs,zi,m,rfl,rfl,hH,by rw [dl.length]; exact hj,?_⟩
   have sm:ai (hd H3 (own A B)) (hd (upd H3 l (.lst (vs.set m v))) λb=>own A B b\/b ∈ ([]:List Addr)):=λb o z=>by
     obtain ⟨z1,z2⟩:=ao.mp z
     exact ao.mpr ⟨(λy=>y.elim z1 λy=>(nomatch y)),by rw [av (λy:b=l=>z1 (by rw [y]; exact hal))]; exact z2⟩
   obtain ⟨B',S'⟩:=put (H1:=H3) (vs':=vs.set m v) (bs1:=[]) (xs':=(ds.set m x).map .d) (ai.refl _) List.nodup_nil (λ_ z=>nomatch z) (nC ((jC m dl (d1.mono (az (e2.trans e3) λ_ z=>z))).mono sm))
   obtain ⟨r,rs,v',f1,f2,f3,f4⟩:=P3
   rw [f1] at eu
   cases eu
   have ne:=S3.below hi hp f1 (pv.mono e3)
   exact fin B' _ _ S' ⟨r,rs,v',f1,by rw [av (Ne.symm ne)]; exact f2,f3,f4⟩ rfl
end
end Hy
namespace Hy
open PySem PySem.Spec PyProof.Rows L2
open Ev (D Den aq ak ba aM)
section
variable {X:Cx} {τ τ1 τ2:List Sl} {x y z:D} {a b e o ix:Expr} {pos p q:Pos} {l:Nat} {N:Po} {st:Stmt} {body rest:List Stmt} {i j k:Nat} {t c:Nd} {pt:List Nat} {xs:List Nd} {m:Nat} {ds:List D}
theorem Ci (ha:PE X a (dEJ X.K τ i j k x)) (hb:PE X b (dEJ X.K τ i j k y)) (ho:wO X x y z) (hs:gw b:=by exact λ_ _=>rfl):PE X (.Subscript a b pos) (dEJ X.K τ i j k z):=by
 obtain ⟨r,h1,h2⟩:=ho
 exact peW (rR h1 ha hb hs) λσ H Q ⟨A,H₀,B,S,P,q⟩=>⟨A,H₀,B,S,P,λv H1 e1 d1=>⟨A,H₀,B,S.mono e1,P.mono e1,λw H2 e2 d2=>h2 A v w H2 Q (λb hb=>((S.mono e1).mono e2).dm b (.inl hb)) (d1.mono (az e2 λ_ z=>z)) d2 λu H' e3 d3=>q u H' (e1.trans (e2.trans e3)) d3⟩⟩
theorem AX {op:CmpOp} {c:Bool} (ha:PE X a (dEJ X.K τ i j k x)) (hb:PE X b (dEJ X.K τ i j k y)) (ho:cg X (compareOp op) x y (.bl c)) (hm:behindInMarks op b=false:=by first | exact pQ _ | rfl):PT X (.Compare a [op] [b] pos) (dTJ X.K τ i j k c):=by
 obtain ⟨r,h1,h2⟩:=ho
 exact ptW (sh h1 ha hb hm) λσ H Q ⟨A,H₀,B,S,P,q⟩=>⟨A,H₀,B,S,P,λv H1 e1 d1=>⟨A,H₀,B,S.mono e1,P.mono e1,λw H2 e2 d2=>h2 A v w H2 _ (λb hb=>((S.mono e1).mono e2).dm b (.inl hb)) (d1.mono (az e2 λ_ z=>z)) d2 λu H' e3 d3=>by cases d3; exact ⟨c,rfl,q H' (e1.trans (e2.trans e3))⟩⟩⟩
theorem Dy {ce:Expr} {c:Bool} (h:PT X ce (dTJ X.K τ i j k c)) (h1:c=true->PSs X body (dSL X.K τ i j k τ1)) (h2:c=false->τ1=τ):PS X (.If ce body [] pos) (dSL X.K τ i j k τ1):=by
 cases c with
 | true=>exact psW (rP h (h1 rfl) jD) λ_ _ _ ⟨A,H₀,B,S,P,fin⟩=>⟨A,H₀,B,S,P,λH' e=>tG ⟨A,H₀,B,S.mono e,P.mono e,fin⟩⟩
 | false=>
   rw [h2 rfl]
   exact psW (rP h iX jD) λ_ _ _ ⟨A,H₀,B,S,P,fin⟩=>⟨A,H₀,B,S,P,λH' e=>ur (fin B _ H' (S.mono e) (P.mono e) rfl)⟩
theorem Ba (r:Nat) {n:Str} {it:Expr} {ys:List D} {g:Nat->D} {tp:Pos} (T:Nat->List Sl) (Bq:Bk X l) (hN:X.N.Nodup) (hi:PI X (.Name n tp) it (dI X.K (T 0) ys)) (hx:∀ a (h:a < ys.length),ys[a]=g a)
   (hb:∀ a,a < ys.length->PSs X body (dSL X.K ((T a).set r (.d (g a))) i j k (T (a + 1)))) (hri:r ≠ i:=by decide) (hrj:r ≠ j:=by decide)
   (hs:∀ x,foldedSetIterable it X.env x=pure x:=by intro _; rfl) (hi':X.N[r]?=some n:=by rfl) (hl:Loc X.env.scope n:=by first | exact .inl rfl | exact .inr rfl)
   (hf:X.fn n=true\/X.env.scope.names.lookup n=some .local:=by first | exact .inl rfl | exact .inr rfl | assumption):PS X (.For (.Name n tp) it body [] pos) (dSL X.K (T 0) i j k (T ys.length)):=by
 have hb':PSs X body λD σ H=>∃ a,a < ys.length/\dSL X.K ((T a).set r (.d (g a))) i j k (T (a + 1)) D σ H:=λpins s σ H D I ⟨a,h,q⟩=>hb a h pins s σ H D I q
 refine psW (qj Bq.po hi (cF (i:=r) hN hi' hl hf) hb' hs) λD σ H ⟨A,H₀,B,S,P,fin⟩=>⟨A,H₀,B,S,λJ H1 e1 yl=>?_⟩
 obtain ⟨s0,S1⟩:=(S.mono e1).base
 have sub:∀ {H'},ai (hd H1 λb=>∃ i,b ∈ B i) H'->ai (hd H1 (own A B)) H':=λe=>(az (ai.refl _) λ_ z=>.inr z).trans e
 refine ⟨λa m σ' H'=>m=ys.length - a/\a<=ys.length/\∃ B',Sta X.K A (hd H1 λb=>∃ i,b ∈ B i) (T a) B' σ' H'/\Pj σ' H' i j k/\σ'[i]?=σ[i]?,⟨ys.length,rfl,Nat.zero_le _,B,S1,P.mono e1,rfl⟩,?_⟩
 rintro a m σ' H' ⟨rfl,ha,B',S',P',q'⟩
 obtain ⟨y1,y2⟩:=yl H' (sub S'.same)
 by_cases hlt:a < ys.length
 · obtain ⟨gg,y⟩:=y2 a hlt
   refine .inr ⟨gg,λσ2 H2=>∃ B2,Sta X.K A (hd H1 λb=>∃ i,b ∈ B i) (T (a + 1)) B2 σ2 H2/\Pj σ2 H2 i j k/\σ2[i]?=σ[i]?,λσ2 H2 q=>⟨ys.length - (a + 1),by omega,rfl,hlt,q⟩,λx H2 hy=>?_⟩
   obtain ⟨e2,dx⟩:=y x H2 hy
   have S2:=S'.mono e2
   have dd:=dx (own A B') S'.dm (by
     intro b o z
     obtain ⟨z1,z2⟩:=ao.mp z
     have z3:hd H1 (λb=>∃ i,b ∈ B i) b=some o:=ao.mpr ⟨λy=>z1 (.inr y),z2⟩
     refine ao.mpr ⟨λy=>?_,S'.same _ _ z3⟩
     rcases y with y | ⟨l,y⟩
     · exact z1 (.inl y)
     · rw [S'.fr l b y] at z3; cases z3)
   rw [hx a hlt] at dd
   have S3:=S2.set (i:=r) (ai.refl _) (bs:=[]) (λ_ z=>nomatch z) (iV dd)
   obtain ⟨c,vs,v,f1,f2,f3,f4⟩:=P'.mono e2
   have ei:(σ'.set r (some x))[i]?=σ'[i]?:=List.getElem?_set_ne hri
   refine ⟨a,hlt,A,_,_,S3,⟨c,vs,v,by rw [ei]; exact f1,f2,f3,by rw [List.getElem?_set_ne hrj]; exact f4⟩,λB3 σ3 H3 S4 P4 q4=>⟨B3,S4,P4,?_⟩⟩
   rw [q4,ei,q']
 · have e:a=ys.length:=by omega
   subst e
   exact .inl ⟨y1 _ (Nat.le_refl _),fin B' σ' H' (S'.back s0 S.ad) P' q'⟩
theorem CT {τ' τ2':List Sl} (h:PSs X body (dSL X.K τ' i j k τ2')) (e1:τ'=τ) (e2:τ2'=τ2):PSs X body (dSL X.K τ i j k τ2):=by
 subst e1
 subst e2
 exact h
theorem wN (i j k:Nat) {n v:Str} {ip tp sp:Pos} {z:Int} (ns:List Nd) (hN:X.N.Nodup) (hi:τ[i]?=some (.n (.l ns))) (hx:PE X ix (dE X.K false τ (.d (.int z)))) (hk:ixN ns.length z=some k)
   (hb:PS X st (dSL X.K τ i j k τ1)) (hr:PSs X rest (dS X.K τ1 N)) (hpx:gw ix:=by exact λ_ _=>rfl) (hj:τ[j]?=some .un:=by rfl) (hij:i ≠ j:=by decide) (hNi:X.N[i]?=some v:=by rfl) (hNj:X.N[j]?=some n:=by rfl)
   (hvi:Vis X.env.scope v:=by first | exact Or.inl rfl | exact Or.inr (Or.inl rfl) | exact Or.inr (Or.inr rfl)) (hlj:Loc X.env.scope n:=by first | exact .inl rfl | exact .inr rfl)
   (hs:swapsWith (.Subscript (.Name v ip) ix sp) (some (.Name n tp)) pos.line X.env=pure false:=by rfl)
   (hf:X.fn n=true\/X.env.scope.names.lookup n=some .local:=by first | exact .inl rfl | exact .inr rfl | assumption)
   (hd1:(v == ("__debug__" : Str))=false:=by decide) (hd2:(v == ("__classdict__" : Str))=false:=by decide) :
   PSs X (.Assign [.Name n tp] (.Subscript (.Name v ip) ix sp) pos :: st :: rest) (dS X.K τ N):=by
 have pe:PE X (.Subscript (.Name v ip) ix sp) (dP X.K τ i ([]++[k])):=vZ (t:=.l ns) (xs:=ns) (fN i (h:=hi) (hN:=hNi) (hv:=hvi) (hd:=hd1) (hcd:=hd2)) hx hi rfl hk (hs:=hpx)
 refine kS (ic (uH hN hNj hlj pe hs hf) (ic hb hr)) λD σ H ⟨A,H₀,B,S,Me⟩=>⟨A,H₀,B,S,λu w H1 eu e1 pv=>?_⟩
 obtain ⟨a,vs,w',rfl,hh,hw,ew⟩:=pv
 obtain rfl:w=w':=ew
 have S1:=S.mono e1
 obtain ⟨_,u',eu',ok⟩:=S1.sl i _ hi
 rw [eu] at eu'
 cases eu'
 have hH:H1 a=some (.lst vs):=by
   generalize B i=bi at ok
   cases ok with
   | @l _ vs' _ _ hH _=>
     rcases hh with hh | hh
     · exact hh
     · rw [hH] at hh; cases hh
 have S2:=S1.set (ai.refl _) (i:=j) (v:=w) (s:=.un) (bs:=[]) (λ_ z=>nomatch z) rfl
 rw [set_same hj] at S2
 have hjl:j < σ.length:=by rw [S.len]; exact (List.getElem?_eq_some_iff.mp hj).1
 have ei:((σ.set j (some w))[i]?).join=some (.ref a):=by rw [List.getElem?_set_ne (Ne.symm hij)]; exact eu
 exact ⟨A,H₀,_,S2,⟨a,vs,w,ei,hH,hw,List.getElem?_set_self hjl⟩,λB3 σ3 H3 S3 _ _=>⟨A,H₀,B3,S3,Me⟩⟩
theorem w4 {elt tg it:Expr} {ifs:List Expr} {spos:Pos} {scope:Scope} {ns:List Nd} {s0:Sl} (i j:Nat) {n:Str} (hN:X.N.Nodup) (h:sY X elt tg it ifs scope (τ.set j (.d x)) ns) (f:dM ns=true) (h2:∀ (i:Nat) (t:Nd),τ[i]?=some (Sl.n t)->ek t=true) (hr:PSs X rest (dS X.K (τ.set i (.n (.l ns))) N))
   (hj:τ[j]?=some s0:=by rfl) (hx:fzD s0=some x:=by rfl) (hi:X.N[i]?=some n:=by rfl) (hl:Loc X.env.scope n:=by first | exact .inl rfl | exact .inr rfl)
   (hsw:swapsWith (.ListComp elt [⟨tg,it,ifs,0⟩] scope pos) (some (.Name n p)) spos.line X.env=pure true:=by rfl) (hf:X.fn n=true\/X.env.scope.names.lookup n=some .local:=by first | exact .inl rfl | exact .inr rfl | assumption) :
   PSs X (.Assign [.Name n p] (.ListComp elt [⟨tg,it,ifs,0⟩] scope pos) spos :: rest) (dS X.K τ N):=by
 obtain ⟨In,caps,N',wi,h1,h2',h3,h4⟩:=h.ex
 exact a7 (M:=(·=τ.set i (.n (.l ns)))) (psW (Ev.gf (cF (i:=i) hN hi hl hf) h1 h2' h.hs h3 hsw) λD σ H ⟨A,H₀,B,S,Me⟩=>h4 true _ _ _ ⟨A,H₀,_,S.fz hj hx,λv H' bs e hf h=>Me.nx _ _ _ _ rfl (S.cut.set e hf (by
   obtain ⟨h0,u,eu,ok⟩:=h
   refine ⟨h0,u,eu,ok.par (λb z=>?_) (show hV (.l ns)=true by rw [hV]; exact f)⟩
   rcases z with z | z
   · rcases (S.mono e).odd h2 b z with z | z
     · exact .inl (.inl (.inl z))
     · exact .inr z
   · exact .inl (.inr z)))⟩) λ_ e=>e ▸ hr
end
end Hy
namespace K59
open PySem PySem.Spec PyProof.Rows L2 Hy
open Ev (D Den aq aC aB)
noncomputable abbrev rwF (r:List Rat):Nd:=.l ((r.map frD).map .d)
theorem u6 {r:List Nd} {kk:Nat} {q:List Rat} (h:r[kk]?=some (rwF q)):cM [kk] (.l r)=some (.l ((q.map frD).map .d)):=by
 show (r[kk]?).bind _=_
 rw [h]
 rfl
theorem yb {r:List Nd} {kk a:Nat} {q:List Rat} (h:r[kk]?=some (rwF q)) (ha:a < q.length):cM [kk,a] (.l r)=some (.d (frD (q.getD a 0))):=by
 show (r[kk]?).bind _=_
 rw [h]
 show (((q.map frD).map Nd.d)[a]?).bind _=_
 rw [List.getElem?_map,List.getElem?_map,List.getElem?_eq_getElem ha]
 simp [cM,ha]
noncomputable def nzq (q:Rat):Rat:=if q.num=0 then 1 else q
theorem zI (q:Rat):nzq q ≠ 0:=by
 unfold nzq
 split
 · decide
 · rename_i h
   exact λz=>h (by rw [z]; rfl)
noncomputable def nzR (g:Nat->Rat) (C a:Nat):List Rat:=(List.range C).map λy=>if y < a then nzq (g y) else g y
theorem uw {g:Nat->Rat} {C a:Nat} (h:a < C):(nzR g C a).getD a 0=g a:=by simp [nzR,h]
theorem nB {g:Nat->Rat} {C a:Nat}:(nzR g C a).length=C:=by simp [nzR]
theorem uN {g:Nat->Rat} {C a:Nat} (e:nzq (g a)=g a):nzR g C (a + 1)=nzR g C a:=by
 unfold nzR
 refine List.map_congr_left λy _=>?_
 by_cases h:y < a
 · rw [if_pos h,if_pos (by omega)]
 · rw [if_neg h]
   by_cases h2:y=a
   · subst h2; rw [if_pos (by omega),e]
   · rw [if_neg (by omega)]
theorem wk {g:Nat->Rat} {C a:Nat} (h:a < C):(((nzR g C a).map frD).set a (frD (nzq (g a))))=(nzR g C (a + 1)).map frD:=by
 unfold nzR
 refine List.ext_getElem (by simp) λy h1 h2=>?_
 have hy:y < C:=by simpa using h2
 rw [List.getElem_set]
 simp only [List.getElem_map,List.getElem_range]
 by_cases e:a=y
 · subst e; rw [if_pos rfl,if_pos (by omega)]
 · rw [if_neg e]
   by_cases h:y < a
   · rw [if_pos h,if_pos (by omega)]
   · rw [if_neg h,if_neg (by omega)]
theorem BU (g:Nat->Rat) (C:Nat):nzR g C 0=(List.range C).map g:=by
 unfold nzR
 exact List.map_congr_left λy _=>if_neg (by omega)
theorem wQ (g:Nat->Rat) (C:Nat):nzR g C C=(List.range C).map λy=>nzq (g y):=by
 unfold nzR
 exact List.map_congr_left λy hy=>if_pos (List.mem_range.mp hy)
theorem xV {r:List Nd} {kk:Nat} {c d:Nd}:b6 [kk] (.l (r.set kk c)) d=.l (r.set kk d):=by
 show Nd.l ((r.set kk c).set kk d)=_
 rw [List.set_set]
noncomputable def dP9 (ns:List Int):List Int:=nums (ns.getD 2 0) [8,4,((szR (ns.getD 0 0) * szC (ns.getD 0 0):Nat):Int)]
noncomputable def m3 (c:Bool) (n:Nat):Nat:=if c then min n 3 else n
noncomputable def dK (p R C:Nat):Nat:=if 16 < R * C then 1 else [0,1,2,3,0,1,0,2].getD p 0
noncomputable def dG (c:Int) (kd C R:Nat):Nat->Nat->Rat:=λi j=>nmQ kd ((tlP c (R * C) kd).getD (C * i + j) 0)
noncomputable def dU (z:Bool) (p R C:Nat) (g:Nat->Nat->Rat):Nat->Nat->Rat:=λx y=>if z=true/\x=p / C % R/\y=p % C then 0 else nzq (g x y)
theorem atK {p:Nat} (h:p < 8):atI [D.int 0,.int 1,.int 2,.int 3,.int 0,.int 1,.int 0,.int 2] (p:Int)=some (.int (([0,1,2,3,0,1,0,2].getD p 0:Nat):Int)):=by
 rcases (by omega:p=0\/p=1\/p=2\/p=3\/p=4\/p=5\/p=6\/p=7) with h | h | h | h | h | h | h | h <;> (rw [h]; rfl)
theorem Bm {p R C:Nat} (h:p < 8):dK p R C < 4:=by
 unfold dK
 split
 · decide
 · rcases (by omega:p=0\/p=1\/p=2\/p=3\/p=4\/p=5\/p=6\/p=7) with h | h | h | h | h | h | h | h <;> (rw [h]; decide)
theorem mn3 (n:Nat):(if (3:Int) < (n:Int) then (3:Int) else (n:Int))=((min n 3:Nat):Int):=by split <;> omega
noncomputable def bD (ns:List Int):Nat:=m3 (decide ((dP9 ns).getD 0 0=3)) (szR (ns.getD 0 0))
noncomputable def a8 (ns:List Int):Nat:=m3 (decide ((dP9 ns).getD 0 0=3)) (szC (ns.getD 0 0))
noncomputable def jR (ns:List Int):Nat:=dK ((dP9 ns).getD 0 0).toNat (bD ns) (a8 ns)
noncomputable def jQ (ns:List Int):Bool:=decide ((dP9 ns).getD 1 0=1)
noncomputable def dZ (ns:List Int):Nat->Nat->Rat:=dU (jQ ns) ((dP9 ns).getD 2 0).toNat (bD ns) (a8 ns) (dG (ns.getD 1 0) (jR ns) (a8 ns) (bD ns))
noncomputable def i9 (ds:List D) (r:Sl):Prop:=∃ ns:List Int,ds=[.lst (ns.map .int)]/\r=.n (cT (mkT (bD ns) (a8 ns) (dZ ns)))
section
variable {P:Program} {w:World} {K:PySem.W.Frag} {mg:Str->Option Value} {base:Heap} {k:Nat} {f:Addr} {fd:FuncData} {qual:Str}
set_option maxHeartbeats 4000000 in
theorem qm (F:Fun K "_law_drawn" qual (top 72) f fd) (hb:∀ x ∈ aj,mg x=none) (c_l_size:Cal P w K mg base k "_law_size" jO) (c_l_numbers:Cal P w K mg base k "_law_numbers" cJ) (c_l_cell:Cal P w K mg base k "_law_cell" iJ) (c_l_table:Cal P w K mg base k "_law_table" i8):aN P w K mg base CX0 (k + 1) f fd ["_law_script"] (spD K i9):=by
 refine fnD F j8 hb (by rintro _ _ ⟨_,rfl,_⟩; rfl) ?_
 rintro _ _ ⟨ns,rfl,rfl⟩ cdv A outer s H E b
 have nd:=j8.nd
 obtain ⟨r1,r7,c1,c7⟩:=uA (ns.getD 0 0)
 refine uy (x_call b c_l_size (ae (x_call b c_l_cell (ae (aa 0) (ae af ag)) ⟨ns,0,rfl,rfl⟩) ag) ⟨_,rfl,rfl⟩) (yH b.calm (jB 1 nd (jB 2 nd vO))) ?_
 have lps:(dP9 ns).length=3:=by unfold dP9; rw [kn]; rfl
 have pos:∀ b ∈ [(8:Int),4,((szR (ns.getD 0 0) * szC (ns.getD 0 0):Nat):Int)],0 < b:=by
   have:0 < szR (ns.getD 0 0) * szC (ns.getD 0 0):=Nat.mul_pos (by omega) (by omega)
   intro b hb
   simp only [List.mem_cons,List.not_mem_nil,or_false] at hb
   omega
 have g0:0<=(dP9 ns).getD 0 0/\(dP9 ns).getD 0 0 < 8:=jA pos (i:=0) (by show 0 < 3; omega)
 have g2:0<=(dP9 ns).getD 2 0:=(jA pos (i:=2) (by show 2 < 3; omega)).1
 have rc:szR (ns.getD 0 0) * szC (ns.getD 0 0)<=49:=Nat.mul_le_mul r7 c7
 refine aA 3 nd (s:=.d (.lst ((dP9 ns).map .int))) (bu (x_call b c_l_numbers (ae (x_call b c_l_cell (ae (aa 0) (ae af ag)) ⟨ns,2,rfl,rfl⟩) (ae (bu (cw (ae af (ae af (ae (aw (aa 1) (aa 2) (aU (mkL (by omega)))) ag))))) ag)) ⟨ns.getD 2 0,[8,4,((szR (ns.getD 0 0) * szC (ns.getD 0 0):Nat):Int)],by rw [Int.natCast_mul]; rfl,by show 3<=10000; omega,?_,rfl⟩)) ?_
 · intro x hx
   have h0:=pos x hx
   simp only [List.mem_cons,List.not_mem_nil,or_false] at hx
   exact ⟨h0,mkD (by omega) (by omega)⟩
 unfold dZ jR bD a8 jQ
 show PSs _ _ (dS K [.d (.lst (ns.map .int)),.d (.int (szR (ns.getD 0 0):Nat)),.d (.int (szC (ns.getD 0 0):Nat)),.d (.lst ((dP9 ns).map .int)),.un,.un,.un,.un,.un] _)
 have a0:atI ((dP9 ns).map D.int) 0=some (.int ((dP9 ns).getD 0 0)):=atR (j:=0) (by omega)
 have a1:atI ((dP9 ns).map D.int) 1=some (.int ((dP9 ns).getD 1 0)):=atR (j:=1) (by omega)
 have a2:atI ((dP9 ns).map D.int) 2=some (.int ((dP9 ns).getD 2 0)):=atR (j:=2) (by omega)
 generalize dP9 ns=ps at lps g0 g2 a0 a1 a2 ⊢
 obtain ⟨p0,e0⟩:∃ p:Nat,ps.getD 0 0=(p:Int):=⟨(ps.getD 0 0).toNat,by omega⟩
 obtain ⟨p2,e2⟩:∃ p:Nat,ps.getD 2 0=(p:Int):=⟨(ps.getD 2 0).toNat,by omega⟩
 rw [e0] at a0 g0 ⊢
 rw [e2] at a2 ⊢
 rw [Int.toNat_natCast,Int.toNat_natCast]
 have p08:p0 < 8:=by omega
 generalize szR (ns.getD 0 0)=R0 at r1 r7 rc ⊢
 generalize szC (ns.getD 0 0)=C0 at c1 c7 rc ⊢
 refine mP (M:=λτ=>τ=[.d (.lst (ns.map .int)),.d (.int (m3 (decide ((p0:Int)=3)) R0:Nat)),.d (.int (m3 (decide ((p0:Int)=3)) C0:Nat)),.d (.lst (ps.map .int)),.un,.un,.un,.un,.un]) (aZ (aL (aa 3) af (aP a0)) af fK) (λh=>?_) (λh=>?_) ?_
 · rw [h]
   refine aA 1 nd (bh b (ae (aa 1) (ae af ag)) (oy b.calm)) ?_
   refine aA 2 nd (bh b (ae (aa 2) (ae af ag)) (oy b.calm)) (aV ?_)
   rw [mn3,mn3]
   rfl
 · rw [h]
   exact aV rfl
 rintro _ rfl
 have r1':1<=m3 (decide ((p0:Int)=3)) R0/\m3 (decide ((p0:Int)=3)) R0<=7:=by unfold m3; split <;> omega
 have c1':1<=m3 (decide ((p0:Int)=3)) C0/\m3 (decide ((p0:Int)=3)) C0<=7:=by unfold m3; split <;> omega
 generalize m3 (decide ((p0:Int)=3)) R0=R at r1' ⊢
 generalize m3 (decide ((p0:Int)=3)) C0=C at c1' ⊢
 obtain ⟨r1,r7⟩:=r1'
 obtain ⟨c1,c7⟩:=c1'
 have rc:R * C<=49:=Nat.mul_le_mul r7 c7
 have eRC:(R:Int) * (C:Int)=((R * C:Nat):Int):=by rw [Int.natCast_mul]
 refine aA 4 nd (aL (bu (cw (ae af (ae af (ae af (ae af (ae af (ae af (ae af (ae af ag)))))))))) (aL (aa 3) af (aP a0)) (aP (atK p08))) ?_
 refine mP (M:=λτ=>τ=[.d (.lst (ns.map .int)),.d (.int (R:Nat)),.d (.int (C:Nat)),.d (.lst (ps.map .int)),.d (.int (dK p0 R C:Nat)),.un,.un,.un,.un]) (aZ (aw (aa 1) (aa 2) (aU (mkL (by omega)))) af Cu) (λh=>?_) (λh=>?_) ?_
 · have h:=of_decide_eq_true h
   refine aA 4 nd af (aV ?_)
   unfold dK
   rw [if_pos (by omega)]
   rfl
 · have h:=of_decide_eq_false h
   refine aV ?_
   unfold dK
   rw [if_neg (by omega)]
   rfl
 rintro _ rfl
 have k4:=Bm (R:=R) (C:=C) p08
 generalize dK p0 R C=kd at k4 ⊢
 refine aA 5 nd (x_call b c_l_cell (ae (aa 0) (ae af ag)) ⟨ns,1,rfl,rfl⟩) ?_
 refine aA 6 nd (s:=.n (cT (mkT R C (dG (ns.getD 1 0) kd C R)))) (x_call b c_l_table (ae (aa 5) (ae (aa 1) (ae (aa 2) (ae (aa 4) ag)))) ⟨ns.getD 1 0,R,C,kd,rfl,r7,c7,k4,rfl⟩) ?_
 generalize dG (ns.getD 1 0) kd C R=G
 refine zq 6 7 ((mkT R C G).map rwF) ((mkT R C λi j=>nzq (G i j)).map rwF) (by simp [mkT]) b nd rfl (λkk hk hk' r hr=>?_) ?_
 · have hk:kk < R:=by simpa [mkT] using hk
   have hkr:kk < r.length:=(List.getElem?_eq_some_iff.mp hr).1
   have en:((mkT R C G).map rwF)[kk]=rwF (nzR (G kk) C 0):=by rw [BU]; simp [mkT]
   have em:((mkT R C λi j=>nzq (G i j)).map rwF)[kk]=rwF (nzR (G kk) C C):=by rw [wQ]; simp [mkT]
   rw [em]
   have e0:r=r.set kk (rwF (nzR (G kk) C 0)):=by
     rw [en] at hr
     obtain ⟨_,hr⟩:=List.getElem?_eq_some_iff.mp hr
     rw [<- hr,List.set_getElem_self]
   let T:Nat->List Sl:=λa=>[.d (.lst (ns.map .int)),.d (.int (R:Nat)),.d (.int (C:Nat)),.d (.lst (ps.map .int)),.d (.int (kd:Nat)),.d (.int (ns.getD 1 0)),.n (.l (r.set kk (rwF (nzR (G kk) C a)))),.un,.un]
   refine CT (τ':=T 0) (τ2':=T (ig 0 C).length) (pZ (Ba 8 T b nd (fJ (n:=(C:Int)) b (aa 2) (by omega) (by omega)) fo (λa ha=>?_)) uX) ?_ ?_
   · have ha:a < C:=by rw [aF] at ha; omega
     have hr':(r.set kk (rwF (nzR (G kk) C a)))[kk]?=some (rwF (nzR (G kk) C a)):=by rw [List.getElem?_set_self hkr]
     refine pZ (τ1:=(T (a + 1)).set 8 (.d (.int (a:Nat)))) (Dy (AX (Ci (xj (Bj qk (aa 8) rfl (u6 hr') (by rw [List.length_map,List.length_map,nB]; exact nR ha)) rfl (yb hr' (by rw [nB]; exact ha))) (ej af) (aO (aD (i:=0) rfl))) (ej af) fK) (λh=>?_) (λh=>?_)) (Cm 8 uX)
     · have h:=of_decide_eq_true h
       rw [uw ha] at h
       have e:(T (a + 1)).set 8 (.d (.int (a:Nat)))=((T a).set 8 (.d (.int (a:Nat)))).set 6 (.n (b6 [kk] (.l (r.set kk (rwF (nzR (G kk) C a)))) (.l ((((nzR (G kk) C a).map frD).set a (.tup [.int 1,.int 1])).map .d)))):=by
         rw [xV,show D.tup [.int 1,.int 1]=frD (nzq (G kk a)) by unfold nzq; rw [if_pos h]; rfl,wk ha]
         rfl
       rw [e]
       exact pZ (ui (m:=a) (zi:=(a:Nat)) (x:=.tup [.int 1,.int 1]) (ds:=(nzR (G kk) C a).map frD) (pt:=[]) qk (aa 8) (fj (ae af (ae af ag))) rfl (u6 hr') (by rw [List.length_map,nB]; exact nR ha)) uX
     · have h:=of_decide_eq_false h
       rw [uw ha] at h
       show [_,_,_,_,_,_,Sl.n (.l (r.set kk (rwF (nzR (G kk) C (a + 1))))),_,_]=_
       rw [uN (by unfold nzq; rw [if_neg h])]
       rfl
   · show [_,_,_,_,_,_,Sl.n (.l (r.set kk (rwF (nzR (G kk) C 0)))),_,_]=_
     rw [<- e0]
     rfl
   · rw [aF]
     rfl
 refine mP (M:=λτ=>τ=[.d (.lst (ns.map .int)),.d (.int (R:Nat)),.d (.int (C:Nat)),.d (.lst (ps.map .int)),.d (.int (kd:Nat)),.d (.int (ns.getD 1 0)),.n (cT (mkT R C (dU (decide (ps.getD 1 0=1)) p2 R C G))),.un,.un]) (aZ (aL (aa 3) af (aP a1)) af fK) (λh=>?_) (λh=>?_) ?_
 · rw [h]
   have hI:p2 / C % R < R:=Nat.mod_lt _ (by omega)
   have hJ:p2 % C < C:=Nat.mod_lt _ (by omega)
   have eI:((p2:Int).fdiv (C:Int)).fmod (R:Int)=((p2 / C % R:Nat):Int):=by
     rw [Int.fdiv_eq_ediv_of_nonneg _ (by omega),Int.fmod_eq_emod_of_nonneg _ (by omega)]
     rfl
   have eJ:(p2:Int).fmod (C:Int)=((p2 % C:Nat):Int):=by
     rw [Int.fmod_eq_emod_of_nonneg _ (by omega)]
     rfl
   have e:dU true p2 R C G=λx y=>if x=p2 / C % R/\y=p2 % C then 0 else nzq (G x y):=by
     funext x y
     unfold dU
     simp only [true_and]
   rw [e,<- se hI]
   generalize p2 / C % R=i0 at hI eI ⊢
   generalize p2 % C=j0 at hJ eJ ⊢
   refine wN 6 7 i0 ((mkT R C λi j=>nzq (G i j)).map rwF) nd rfl (by rw [<- eI]; exact aw (aw (aL (aa 3) af (aP a2)) (aa 2) (a9 (mkD (by omega) (by omega)))) (aa 1) (b7 (by omega))) (pC hI) (ui (i:=6) (j:=7) (k:=i0) (m:=j0) (zi:=(j0:Nat)) (x:=.tup [.int 0,.int 1]) (ds:=((mkT R C λi j=>nzq (G i j)).getD i0 []).map frD) (pt:=[]) qk (by rw [<- eJ]; exact aw (aL (aa 3) af (aP a2)) (aa 2) (b7 (by omega))) (fj (ae af (ae af ag))) rfl (mD hI) (rW hI hJ)) (aV ?_)
   show [_,_,_,_,_,_,Sl.n (b6 [i0] (cT (mkT R C λi j=>nzq (G i j))) (.l (((((mkT R C λi j=>nzq (G i j)).getD i0 []).map frD).set j0 (frD 0)).map .d))),_,_]=_
   rw [rD]
 · rw [h]
   refine aV ?_
   have e:dU false p2 R C G=λx y=>nzq (G x y):=by
     funext x y
     unfold dU
     rw [if_neg (λz=>nomatch z.1)]
   rw [e]
   rfl
 rintro _ rfl
 exact jL 6 rfl
end
theorem uk {R C D V N:Nat} {c:Nat->Nat->Rat} (ne:∀ i j,c i j ≠ 0) (r1:1<=R) (r7:R<=7) (c1:1<=C) (c7:C<=7) (cq:∀ i < R,Cq C D V (nv (min R C) c i)) (sc:∀ i < R,∀ j < C,Sq 270 (c i j)) (hN:∀ n,n<=R->n<=C->n<=N) (h1:N * (V + 3)<=8800) (h2:N * (D + 1)<=8990) (h3:C * (D + 1)<=8990) (h4:V + D<=4000):Mz R C c D V:=
 ⟨ne,r1,r7,c1,c7,cq,sc,λn a b=>⟨Nat.le_trans (Nat.mul_le_mul_right _ (hN n a b)) h1,Nat.le_trans (Nat.mul_le_mul_right _ (hN n a b)) h2⟩,h3,h4⟩
noncomputable def nzT (kd:Nat) (p:Int):Int:=if (nmQ kd p).num=0 then nmB kd p else nmT kd p
theorem pF {kd:Nat} (p:Int):((nzT kd p:Int):Rat)=nzq (nmQ kd p) * ((nmB kd p:Int):Rat):=by
 unfold nzT nzq
 split
 · rw [Rat.one_mul]
 · exact pY p
theorem BP {kd:Nat} (p:Int):Sq 270 (nzq (nmQ kd p)):=by
 unfold nzq
 split
 · exact Sq.cO (t:=1) (b:=1) (by decide) (by grind) (by unfold Bd; decide) (by unfold Bd; decide)
 · exact (CA p).sq.mono (by unfold kD kV; split <;> omega)
theorem Dl (p:Int):∃ z:Int,(z:Rat)=nzq (nmQ 1 p) * ((1:Int):Rat)/\z.natAbs<=2 ^ 2:=by
 refine ⟨nzT 1 p,pF p,?_⟩
 unfold nzT
 split
 · show (1:Int).natAbs<=4; decide
 · have:=fmn (a:=p) (b:=5) (by decide)
   show (p.fmod 5 - 2).natAbs<=4
   omega
theorem B4 {kd:Nat} (h:kd=0\/kd=2) (p:Int):∃ z:Int,(z:Rat)=nzq (nmQ kd p) * ((60:Int):Rat)/\z.natAbs<=2 ^ 10:=by
 have hb:1<=nmB kd p/\nmB kd p<=6:=by
   have a:=fmn (a:=p.fdiv 10) (b:=6) (by decide)
   have b:=fmn (a:=p.fdiv 19) (b:=6) (by decide)
   rcases h with rfl | rfl
   · show 1<=1 + (p.fdiv 19).fmod 6/\1 + (p.fdiv 19).fmod 6<=6; omega
   · show 1<=1 + (p.fdiv 10).fmod 6/\1 + (p.fdiv 10).fmod 6<=6; omega
 have ht:(nmT kd p).natAbs<=9:=by
   have a:=fmn (a:=p) (b:=10) (by decide)
   have b:=fmn (a:=p) (b:=19) (by decide)
   rcases h with rfl | rfl
   · show (p.fmod 19 - 9).natAbs<=9; omega
   · show (p.fmod 10).natAbs<=9; omega
 have hz:(nzT kd p).natAbs<=9:=by
   unfold nzT
   split <;> omega
 have e:=pF (kd:=kd) p
 obtain ⟨q,hq,q60⟩:∃ q:Int,(60:Int)=nmB kd p * q/\q.natAbs<=60:=by
   generalize nmB kd p=b at hb
   rcases (by omega:b=1\/b=2\/b=3\/b=4\/b=5\/b=6) with rfl | rfl | rfl | rfl | rfl | rfl
   · exact ⟨60,by decide,by decide⟩
   · exact ⟨30,by decide,by decide⟩
   · exact ⟨20,by decide,by decide⟩
   · exact ⟨15,by decide,by decide⟩
   · exact ⟨12,by decide,by decide⟩
   · exact ⟨10,by decide,by decide⟩
 refine ⟨nzT kd p * q,by rw [hq,Rat.intCast_mul,Rat.intCast_mul,e,Rat.mul_assoc],?_⟩
 rw [Int.natAbs_mul]
 exact Nat.le_trans (Nat.mul_le_mul hz q60) (by decide)
theorem DH {p R C:Nat} (h:p < 8):(dK p R C=1\/((dK p R C=0\/dK p R C=2)/\R * C<=16)\/(dK p R C=3/\p=3)):=by
 unfold dK
 split
 · exact .inl rfl
 · rcases (by omega:p=0\/p=1\/p=2\/p=3\/p=4\/p=5\/p=6\/p=7) with h | h | h | h | h | h | h | h <;> subst h <;> first | exact .inl rfl | exact .inr (.inl ⟨.inl rfl,by omega⟩) | exact .inr (.inl ⟨.inr rfl,by omega⟩) | exact .inr (.inr ⟨rfl,rfl⟩)
theorem yQ (ns:List Int):1<=bD ns/\bD ns<=7/\1<=a8 ns/\a8 ns<=7:=by
 obtain ⟨r1,r7,c1,c7⟩:=uA (ns.getD 0 0)
 unfold bD a8 m3
 split <;> omega
theorem Dx (ns:List Int):0<=(dP9 ns).getD 0 0/\(dP9 ns).getD 0 0 < 8:=by
 obtain ⟨r1,r7,c1,c7⟩:=uA (ns.getD 0 0)
 have:0 < szR (ns.getD 0 0) * szC (ns.getD 0 0):=Nat.mul_pos (by omega) (by omega)
 exact jA (c:=ns.getD 2 0) (bs:=[8,4,((szR (ns.getD 0 0) * szC (ns.getD 0 0):Nat):Int)]) (λb hb=>by
   simp only [List.mem_cons,List.not_mem_nil,or_false] at hb
   omega) (i:=0) (by show 0 < 3; omega)
theorem zS:∀ R,R < 8->∀ C,C < 8->nuD R C 2 (min R C) 0<=112/\nuM R C 2 (min R C) 0<=217:=by decide +kernel
theorem vM:∀ R,R < 8->∀ C,C < 8->R * C<=16->nuD R C 10 (min R C) 0<=200/\nuM R C 10 (min R C) 0<=388:=by decide +kernel
theorem yL {R C b:Nat} {e:Int} {c:Nat->Nat->Rat} (ne:∀ i j,c i j ≠ 0) (e0:0 < e) (e1:e.natAbs<=2 ^ b) (h:∀ i j,∃ z:Int,(z:Rat)=c i j * (e:Rat)/\z.natAbs<=2 ^ b) (r7:R<=7) (c7:C<=7):Cn R C b e c λi j=>(c i j * (e:Rat)).num:=by
 refine ⟨ne,e0,e1,λi hi j hj=>?_,λi hi j hj=>?_,r7,c7⟩
 · obtain ⟨z,hz,_⟩:=h i j
   rw [<- hz,Rat.num_intCast]
 · obtain ⟨z,hz,h1⟩:=h i j
   rw [<- hz,Rat.num_intCast]
   exact h1
theorem yp {w d m d' m':Nat} {r:Nat->Rat} (h:Cq w d m r) (h1:d<=d') (h2:m<=m'):Cq w d' m' r:=by
 obtain ⟨D,g0,g1,g⟩:=h
 refine ⟨D,g0,Nat.le_trans g1 (Nat.pow_le_pow_right (by decide) h1),λa ha=>?_⟩
 obtain ⟨z,hz,h3⟩:=g a ha
 exact ⟨z,hz,Nat.le_trans h3 (Nat.pow_le_pow_right (by decide) h2)⟩
theorem Ct (ns:List Int) (h:jQ ns=false):∃ d v,Mz (bD ns) (a8 ns) (dZ ns) d v:=by
 obtain ⟨r1,r7,c1,c7⟩:=yQ ns
 have p0:=Dx ns
 have e:dZ ns=λx y=>nzq (dG (ns.getD 1 0) (jR ns) (a8 ns) (bD ns) x y):=by
   unfold dZ
   rw [h]
   funext x y
   unfold dU
   rw [if_neg (λz=>nomatch z.1)]
 have ne:∀ i j,dZ ns i j ≠ 0:=λi j=>by rw [e]; exact zI _
 have sc:∀ i < bD ns,∀ j < a8 ns,Sq 270 (dZ ns i j):=λi _ j _=>by rw [e]; exact BP _
 rcases DH (p:=((dP9 ns).getD 0 0).toNat) (R:=bD ns) (C:=a8 ns) (by omega) with k | ⟨k,rc⟩ | ⟨k,kp⟩
 · have k:jR ns=1:=k
   obtain ⟨b1,b2⟩:=zS (bD ns) (by omega) (a8 ns) (by omega)
   have cn:=yL (R:=bD ns) (C:=a8 ns) (b:=2) (e:=1) ne (by decide) (by decide) (λi j=>by rw [e,k]; exact Dl _) r7 c7
   exact ⟨116,217,uk ne r1 r7 c1 c7 (λi hi=>yp (cn.cq i hi) (by omega) b2) sc (N:=7) (λn a b=>by omega) (by decide) (by decide) (by omega) (by decide)⟩
 · have k:jR ns=0\/jR ns=2:=k
   obtain ⟨b1,b2⟩:=vM (bD ns) (by omega) (a8 ns) (by omega) rc
   have cn:=yL (R:=bD ns) (C:=a8 ns) (b:=10) (e:=60) ne (by decide) (by decide) (λi j=>by rw [e]; exact B4 k _) r7 c7
   exact ⟨220,388,uk ne r1 r7 c1 c7 (λi hi=>yp (cn.cq i hi) (by omega) b2) sc (N:=7) (λn a b=>by omega) (by decide) (by decide) (by omega) (by decide)⟩
 · have k:jR ns=3:=k
   have q:(dP9 ns).getD 0 0=3:=by omega
   have s3:bD ns<=3/\a8 ns<=3:=by
     unfold bD a8 m3
     rw [decide_eq_true q]
     simp only [if_true]
     omega
   let P:Nat->Nat->Int:=λi j=>(tlP (ns.getD 1 0) (bD ns * a8 ns) 3).getD (a8 ns * i + j) 0
   have k3:K3 (dZ ns) (λi j=>nzT 3 (P i j)) (λi j=>nmB 3 (P i j)):=by
     have gb:∀ p,(nmB 3 p).natAbs<=2 ^ 133:=λp=>by
       have:=(iR (kd:=3) p).2
       exact Nat.le_of_lt this
     refine ⟨ne,λi j=>(iR _).1,λi j=>gb _,λi j=>?_,λi j=>?_⟩
     · show (nzT 3 (P i j)).natAbs<=_
       unfold nzT
       split
       · exact gb _
       · exact vt _
     · rw [e,k]
       exact pF _
   exact ⟨1729,1732,uk ne r1 r7 c1 c7 (λi hi=>k3.row s3.1 s3.2 hi) sc (N:=3) (λn a b=>by omega) (by decide) (by decide) (by omega) (by decide)⟩
section
variable {P:Program} {w:World} {K:PySem.W.Frag} {mg:Str->Option Value} {base:Heap} {k:Nat} {f:Addr} {fd:FuncData} {qual:Str}
end
theorem Bp {i j:Nat}:(i:Int) - (if (j:Int) < (i:Int) then (j:Int) else (i:Int))=(i:Int) + 1 - ((cnS i j:Nat):Int):=by unfold cnS; split <;> omega
theorem uU {L:List Int} {t:Nat} (h:t < L.length):prZ (L.take (t + 1))=prZ (L.take t) * L.getD t 0:=by
 rw [List.take_succ,List.getElem?_eq_getElem h,<- iB]
 simp [h]
noncomputable def gJ (ds:List D) (r:Sl):Prop:=∃ (bs:List Int) (d i j:Nat),ds=[.lst (bs.map .int),.int (i:Nat),.int (j:Nat)]/\bs.length<=7/\(∀ x ∈ bs,Bd d x)/\d<=8999/\r=.d (.int (prZ ((bs.take (i + 1)).drop (i + 1 - cnS i j))))
theorem rl (M:List (List Rat)):fzD (.n (.t [px (whM M (M.map scL)),.d (.int (prZ (M.map scL)))]))=some (.tup [.lst ((whM M (M.map scL)).map dtR),.int (prZ (M.map scL))]):=by
 show some (D.tup [ndD (px _),_])=_
 rw [Ae]
 rfl
theorem w5 (x:Int):prZ [x]=x:=by unfold prZ; exact Int.one_mul x
noncomputable def fE (ds:List D) (r:Sl):Prop:=∃ (R C d v:Nat) (M:List (List Rat)),ds=[tbQ M]/\Tq R C M/\(∀ r ∈ M,∀ x ∈ r,Qs d v x)/\1 + C * d<=8999/\v + d<=8999/\r=.o ((M.map scL).map .int)
section
variable {P:Program} {w:World} {K:PySem.W.Frag} {mg:Str->Option Value} {base:Heap} {k:Nat} {f:Addr} {fd:FuncData} {qual:Str}
theorem oF (F:Fun K "_law_bottom" qual (top 68) f fd) (hb:∀ x ∈ aj,mg x=none):aN P w K mg base CX0 (k + 1) f fd ["_law_bottoms_here","_law_i","_law_j"] (spD K gJ):=by
 refine fnD F jq hb (by rintro _ _ ⟨_,_,_,_,rfl,_⟩; rfl) ?_
 rintro _ _ ⟨bs,d,i,j,rfl,l7,hB,hd,rfl⟩ cdv A outer s H E b
 have nd:=jq.nd
 have cut:Hy.cutD (bs.map D.int) (some ((i:Int) - (if (j:Int) < (i:Int) then (j:Int) else (i:Int)))) (some ((i:Int) + 1))=((bs.take (i + 1)).drop (i + 1 - cnS i j)).map D.int:=by
   rw [Bp]
   exact mj bs (by unfold cnS; omega)
 have hL:∀ x ∈ (bs.take (i + 1)).drop (i + 1 - cnS i j),Bd d x:=λx hx=>hB x (List.mem_of_mem_take (List.mem_of_mem_drop hx))
 have lL:((bs.take (i + 1)).drop (i + 1 - cnS i j)).length<=7:=by rw [List.length_drop,List.length_take]; omega
 generalize (bs.take (i + 1)).drop (i + 1 - cnS i j)=L at cut hL lL ⊢
 refine aA 3 nd af ?_
 refine cb 4 (g:=λt=>.int (L.getD t 0)) (λt τ=>t<=L.length/\∃ s4,τ=[.d (.lst (bs.map .int)),.d (.int (i:Nat)),.d (.int (j:Nat)),.d (.int (prZ (L.take t))),s4]) b nd (aY (bu (x:=.lst (L.map .int)) (tT (aa 0) (dN (aw (aa 1) (bh b (ae (aa 1) (ae (aa 2) ag)) (oy b.calm)) cY)) (dN (aw (aa 1) af bB))) (congrArg (λl=>some (D.lst l)) cut))) yj ⟨Nat.zero_le _,.un,rfl⟩ (λt ht τ z=>?_) λτ z=>?_
 · obtain ⟨_,s4,rfl⟩:=z
   have ht:t < L.length:=by simpa using ht
   have b1:=kz (d:=d) (r:=L.take t) λx hx=>hL x (List.mem_of_mem_take hx)
   have b2:(L.take t).length * d<=7 * 8999:=Nat.mul_le_mul (by rw [List.length_take]; omega) hd
   have b3:=hL _ (bj (d:=(0:Int)) ht)
   rw [uU ht]
   exact aA 3 nd (aw (aa 3) (aa 4) (aU (b1.aC b3 (by omega) (by omega)))) (aV ⟨ht,_,rfl⟩)
 · obtain ⟨_,s4,rfl⟩:=z
   rw [List.length_map,List.take_length]
   exact aK (aa 3) rfl
theorem nh (F:Fun K "_law_bottoms" qual (top 69) f fd) (hb:∀ x ∈ aj,mg x=none) (c_l_rows:Cal P w K mg base k "_law_rows" iI):aN P w K mg base CX0 (k + 1) f fd ["_law_table_here"] (spD K fE):=by
 refine fnD F iL hb (by rintro _ _ ⟨_,_,_,_,_,rfl,_⟩; rfl) ?_
 rintro _ _ ⟨R,C,d,v,M,rfl,t,hq,z1,z2,rfl⟩ cdv A outer s H E b
 have nd:=iL.nd
 have r7:=t.r7
 refine aA 1 nd (cw ag) ?_
 refine cb 2 (g:=λi=>rwQ (M.getD i [])) (λi τ=>i<=M.length/\∃ s2,τ=[.d (tbQ M),.o (((M.map scL).take i).map .int),s2]) b nd (aY (aa 0)) (bW (f:=rwQ) (xs:=M) []) ⟨Nat.zero_le _,.un,rfl⟩ (λi hi τ h=>?_) λτ h=>?_
 · obtain ⟨_,s2,rfl⟩:=h
   have hi:i < M.length:=by simpa using hi
   have mi:=bj (xs:=M) (d:=[]) hi
   have et:(M.map scL).take (i + 1)=(M.map scL).take i++[scL (M.getD i [])]:=by
     rw [List.take_succ,List.getElem?_map,List.getElem?_eq_getElem hi]
     simp [hi]
   rw [et,List.map_append]
   have tr:Tq 1 C [M.getD i []]:=⟨by decide,by decide,t.c1,t.c7,rfl,λr hr=>by rw [List.mem_singleton.mp hr]; exact t.row _ mi⟩
   refine rh 1 (x:=.int (scL (M.getD i []))) (aL (bu (x_call b c_l_rows (ae (bu (x:=tbQ [M.getD i []]) (cw (ae (aa 2) ag))) ag) ⟨1,C,d,v,[M.getD i []],rfl,tr,λr hr=>(by rw [List.mem_singleton.mp hr]; exact hq _ mi),z1,z2,rfl⟩) (rl _)) af (aO (aD (i:=1) ?_))) ?_ (aV ⟨hi,_,rfl⟩)
   · show some (D.int (prZ [scL (M.getD i [])]))=_
     rw [w5]
   · rw [List.length_map,List.length_take,List.length_map]
     have:=t.len
     omega
 · obtain ⟨_,s2,rfl⟩:=h
   rw [List.length_map,List.take_of_length_le (by rw [List.length_map]; exact Nat.le_refl _)]
   exact jL 1 rfl
end
noncomputable def whw (x:D):Bool:=jy .int x && !jy .bool x
noncomputable def i5 (ds:List D) (r:Sl):Prop:=∃ x,ds=[x]/\r=.d (.bl (whw x))
noncomputable def dW (ds:List D) (r:Sl):Prop:=∃ q:Rat,ds=[frD q,.int q.num,.int (q.den:Nat)]/\Sq 8000 q/\r=.d (.bl true)
theorem AU (q:Rat):(Int.gcd q.num (q.den:Nat):Int)=1:=by
 have:Nat.gcd q.num.natAbs q.den=1:=q.reduced
 rw [Int.gcd,Int.natAbs_natCast,this]
 rfl
noncomputable def gP (ds:List D) (r:Sl):Prop:=∃ (R C:Nat) (M N:List (List Rat)),ds=[tbQ M,tbQ N]/\Tq R C M/\Tq R C N/\(∀ r ∈ M,∀ x ∈ r,Sq 8000 x)/\r=.d (.bl true)
section
variable {P:Program} {w:World} {K:PySem.W.Frag} {mg:Str->Option Value} {base:Heap} {k:Nat} {f:Addr} {fd:FuncData} {qual:Str}
theorem p8 (F:Fun K "_law_whole" qual (top 62) f fd) (hb:∀ x ∈ aj,mg x=none):aN P w K mg base CX0 (k + 1) f fd ["_law_thing"] (spD K i5):=by
 refine fnD F pH hb (by rintro _ _ ⟨_,rfl,_⟩; rfl) ?_
 rintro _ _ ⟨x,rfl,rfl⟩ cdv A outer s H E b
 exact aK (fP (eF .int b (aa 0)) λh=>(iu (yF (eF .bool b (aa 0))))) rfl
theorem j9 (F:Fun K "_law_is_number" qual (top 63) f fd) (hb:∀ x ∈ aj,mg x=none) (c_l_whole:Cal P w K mg base k "_law_whole" i5) (c_l_divisor:Cal P w K mg base k "_law_divisor" cL):aN P w K mg base CX0 (k + 1) f fd ["_law_found","_law_top","_law_bottom_here"] (spD K dW):=by
 refine fnD F jU hb (by rintro _ _ ⟨_,rfl,_⟩; rfl) ?_
 rintro _ _ ⟨q,rfl,hq,rfl⟩ cdv A outer s H E b
 refine cu (PW.pt (d8 (bO (bC (eF .tuple b (aa 0)))) λh=>(d8 (aZ (bh b (ae (aa 0) ag) qK) af jM) λh=>(d8 (bO (bC (x_call b c_l_whole (ae (aL (aa 0) af (aO (aD (i:=0) rfl))) ag) ⟨_,rfl,rfl⟩))) λh=>(df (bO (bC (x_call b c_l_whole (ae (aL (aa 0) af (aO (aD (i:=1) rfl))) ag) ⟨_,rfl,rfl⟩)))))))) rfl ?_
 refine cu (PW.pt (d8 (aZ (aL (aa 0) af (aO (aD (i:=1) rfl))) af zG) λh=>(df (aZ (x_call b c_l_divisor (ae (aL (aa 0) af (aO (aD (i:=0) rfl))) (ae (aL (aa 0) af (aO (aD (i:=1) rfl))) ag)) ⟨_,_,rfl,rfl⟩) af jM)))) ?_ ?_
 · rw [AU,decide_eq_false (show ¬ ((q.den:Nat):Int) < 1 by have:=den_pos q; omega)]
   rfl
 refine aK (fh (aw (aL (aa 0) af (aO (aD (i:=0) rfl))) (aa 2) (aU (hq.num.aC hq.den (by decide) (by decide)))) (aw (aa 1) (aL (aa 0) af (aO (aD (i:=1) rfl))) (aU (hq.num.aC hq.den (by decide) (by decide)))) fK) ?_
 rw [decide_eq_true rfl]
theorem pg (F:Fun K "_law_shaped" qual (top 70) f fd) (hb:∀ x ∈ aj,mg x=none) (c_l_is_number:Cal P w K mg base k "_law_is_number" dW):aN P w K mg base CX0 (k + 1) f fd ["_law_found","_law_table_here"] (spD K gP):=by
 refine fnD F jo hb (by rintro _ _ ⟨_,_,_,_,rfl,_⟩; rfl) ?_
 rintro _ _ ⟨R,C,M,N,rfl,t,u,hq,rfl⟩ cdv A outer s H E b
 have nd:=jo.nd
 have r1:=t.r1
 have e0:atI (N.map rwQ) 0=some (rwQ (N.getD 0 [])):=dF [] (i:=0) (by rw [u.len]; omega)
 refine cu (PW.pt (d8 (bO (bC (eF .list b (aa 0)))) λh=>(df (aZ (bh b (ae (aa 0) ag) (cN (n:=R) (by rw [List.length_map]; exact t.len))) (bh b (ae (aa 1) ag) (cN (n:=R) (by rw [List.length_map]; exact u.len))) jM)))) (by rw [decide_eq_true rfl]; rfl) ?_
 refine cb 2 (g:=λi=>rwQ (M.getD i [])) (λi τ=>∃ s2 s3,τ=[.d (tbQ M),.d (tbQ N),s2,s3]) b nd (aY (aa 0)) (bW (f:=rwQ) (xs:=M) []) ⟨.un,.un,rfl⟩ (λi hi τ h=>?_) λτ h=>?_
 · obtain ⟨s2,s3,rfl⟩:=h
   have hi:i < M.length:=by simpa using hi
   have mi:=bj (xs:=M) (d:=[]) hi
   have hC:=t.at_ (i:=i) (by rw [<- t.len]; exact hi)
   have qr:=hq _ mi
   generalize M.getD i []=row at hC qr ⊢
   refine cu (PW.pt (d8 (bO (bC (eF .list b (aa 2)))) λh=>(df (aZ (bh b (ae (aa 2) ag) (cN (n:=C) (by rw [List.length_map]; exact hC))) (bh b (ae (aL (aa 1) af (aP e0)) ag) (cN (n:=C) (by rw [List.length_map]; exact u.at_ (by omega)))) jM)))) (by rw [decide_eq_true rfl]; rfl) ?_
   refine cb 3 (g:=λj=>frD (row.getD j 0)) (λj τ=>∃ s3,τ=[.d (tbQ M),.d (tbQ N),.d (rwQ row),s3]) b nd (aY (aa 2)) (bW (f:=frD) (xs:=row) 0) ⟨s3,rfl⟩ (λj hj τ h=>?_) λτ h=>?_
   · obtain ⟨s3',rfl⟩:=h
     have hj:j < row.length:=by simpa using hj
     have sq:=qr _ (bj (d:=(0:Rat)) hj)
     generalize row.getD j 0=x at sq ⊢
     exact cu (PW.pt (d8 (bO (bC (eF .tuple b (aa 3)))) λh=>(d8 (aZ (bh b (ae (aa 3) ag) qK) af jM) λh=>(df (bO (bC (x_call b c_l_is_number (ae (aa 3) (ae (aL (aa 3) af (aO (aD (i:=0) rfl))) (ae (aL (aa 3) af (aO (aD (i:=1) rfl))) ag))) ⟨x,rfl,sq,rfl⟩))))))) rfl (aV ⟨_,rfl⟩)
   · obtain ⟨s3',rfl⟩:=h
     exact aV ⟨_,_,rfl⟩
 · obtain ⟨s2,s3,rfl⟩:=h
   exact aK kW rfl
end
structure Rz (R C b:Nat) (Ms:List (List Int)):Prop where
 len:Ms.length=R
 row:∀ r ∈ Ms,r.length=C/\∀ x ∈ r,x.natAbs<=2 ^ b
 r7:R<=7
 c7:C<=7
 b1:∀ n,n<=R->n<=C->n * (b + 3)<=8800
theorem Rz.dt {R C b i j:Nat} {Ms:List (List Int)} (h:Rz R C b Ms) (hi:i < R) (hj:j < C):Dt (cnS i j) b (cnM Ms i j):=by
 have hs:cnS i j<=i + 1/\cnS i j<=j + 1/\1<=cnS i j:=by unfold cnS; omega
 have h7:=h.r7
 have h1:=h.b1
 have n7:cnS i j<=7:=by omega
 refine ⟨n7,?_,λr hr=>?_,h1 _ (by omega) (by omega),by have q1:=h1 (cnS i j) (by omega) (by omega); have q2:1 * (b + 3)<=cnS i j * (b + 3):=Nat.mul_le_mul_right _ hs.2.2; omega⟩
 · unfold cnM
   rw [List.length_map,List.length_drop,List.length_take,h.len]
   omega
 · unfold cnM at hr
   obtain ⟨q,hq,rfl⟩:=List.mem_map.mp hr
   obtain ⟨q1,q2⟩:=h.row q (List.mem_of_mem_take (List.mem_of_mem_drop hq))
   refine ⟨?_,λx hx=>q2 x (List.mem_of_mem_take (List.mem_of_mem_drop hx))⟩
   rw [List.length_drop,List.length_take,q1]
   omega
theorem Rz.det {R C b i j:Nat} {Ms:List (List Int)} (h:Rz R C b Ms) (hi:i < R) (hj:j < C):((dtZ (cnM Ms i j):Int):Rat)=sld (dtM Ms) (i + 1 - cnS i j) (j + 1 - cnS i j) (cnS i j):=by
 have hs:cnS i j<=i + 1/\cnS i j<=j + 1/\1<=cnS i j:=by unfold cnS; omega
 have hl:=h.len
 rw [(h.dt hi hj).ok.2.2]
 unfold sld mi
 refine aE λr hr c hc=>?_
 have er:i + 1 - cnS i j + r < Ms.length:=by omega
 have e1:(cnM Ms i j).getD r []=((Ms.getD (i + 1 - cnS i j + r) []).take (j + 1)).drop (j + 1 - cnS i j):=by
   unfold cnM
   simp only [List.getD_eq_getElem?_getD,List.getElem?_map,List.getElem?_drop,List.getElem?_take]
   rw [if_pos (by omega),List.getElem?_eq_getElem er]
   rfl
 unfold dtM
 rw [e1]
 simp only [List.getD_eq_getElem?_getD,List.getElem?_drop,List.getElem?_take]
 rw [if_pos (by omega)]
noncomputable def gQ (ds:List D) (r:Sl):Prop:=∃ (R C b i j:Nat) (Ms:List (List Int)),ds=[.lst (Ms.map dtR),.int (i:Nat),.int (j:Nat)]/\Rz R C b Ms/\i < R/\j < C/\r=.d (.int (dtZ (cnM Ms i j)))
theorem sa {α:Type} {f:α->D} (xs:List α) {i s:Nat} (h:s<=i + 1):Hy.cutD (xs.map f) (some ((i:Int) - (s:Nat) + 1)) (some ((i:Int) + 1))=((xs.take (i + 1)).drop (i + 1 - s)).map f:=by
 rw [<- mj xs h,show (i:Int) - (s:Nat) + 1=(i:Int) + 1 - (s:Nat) by omega]
theorem xp {R C a b k:Nat} {M:List (List Rat)} (t:Tq R C M) (ha:a + k<=R) (hb:b + k<=C):sld (dtM (whM M (M.map scL))) a b k=dh (λr=>((scL (M.getD (a + r) []):Int):Rat)) k * sld (qM M) a b k:=by
 unfold sld mi
 rw [<- iU (n:=k) _ (λr c=>qM M (a + r) (b + c)) k (Nat.le_refl _)]
 refine aE λi hi j hj=>?_
 rw [if_pos hi]
 have hi':a + i < M.length:=by rw [t.len]; omega
 have hj':b + j < (M.getD (a + i) []).length:=by rw [t.at_ (by omega)]; omega
 have sc:(M.map scL).getD (a + i) 0=scL (M.getD (a + i) []):=by simp [hi']
 unfold dtM
 rw [vg hi' hj',sc,yV ((jg _).2 _ (bj hj')),Rat.mul_comm]
 rfl
theorem jl {f g:Nat->Rat}:∀ n,(∀ i < n,f i=g i)->dh f n=dh g n
 | 0,_=>rfl
 | n + 1,h=>by rw [dh,dh,jl n λi hi=>h i (by omega),h n (by omega)]
theorem Mz.rz {R C d v:Nat} {c:Nat->Nat->Rat} (h:Mz R C c d v):Rz R C v (whM (mkT R C (nv (min R C) c)) ((mkT R C (nv (min R C) c)).map scL)):=by
 have yr:=h.yr
 have t:=gi (G:=nv (min R C) c) h.r1 h.r7 h.c1 h.c7
 generalize mkT R C (nv (min R C) c)=M at yr t ⊢
 refine ⟨by unfold whM; simp [t.len],λr hr=>?_,h.r7,h.c7,λn h1 h2=>(h.bz n h1 h2).1⟩
 unfold whM at hr
 obtain ⟨i,hi,rfl⟩:=List.mem_map.mp hr
 have hi:i < M.length:=List.mem_range.mp hi
 have mi:=bj (xs:=M) (d:=[]) hi
 have sc:(M.map scL).getD i 0=scL (M.getD i []):=by simp [hi]
 rw [sc]
 exact ⟨by unfold whR; rw [List.length_map]; exact t.row _ mi,(yr _ mi).wh⟩
theorem Mz.mC {R C d v i j:Nat} {c:Nat->Nat->Rat} (h:Mz R C c d v) (hi:i < R) (hj:j < C):dtZ (cnM (whM (mkT R C (nv (min R C) c)) ((mkT R C (nv (min R C) c)).map scL)) i j) * ((c i j).den:Nat)=(c i j).num * prZ ((((mkT R C (nv (min R C) c)).map scL).take (i + 1)).drop (i + 1 - cnS i j)):=by
 have hs:cnS i j<=i + 1/\cnS i j<=j + 1/\1<=cnS i j:=by unfold cnS; omega
 have e1:=h.rz.det hi hj
 have t:=gi (G:=nv (min R C) c) h.r1 h.r7 h.c1 h.c7
 have e2:coQ (mkT R C (nv (min R C) c)) i j=c i j:=v9 h.ne hi hj (by omega)
 generalize mkT R C (nv (min R C) c)=M at e1 t e2 ⊢
 rw [xp t (by omega) (by omega)] at e1
 have e3:sld (qM M) (i + 1 - cnS i j) (j + 1 - cnS i j) (cnS i j)=c i j:=e2
 have ll:(((M.map scL).take (i + 1)).drop (i + 1 - cnS i j)).length=cnS i j:=by
   rw [List.length_drop,List.length_take,List.length_map,t.len]
   omega
 have e4:=mq (((M.map scL).take (i + 1)).drop (i + 1 - cnS i j)) (cnS i j) (by rw [ll]; exact Nat.le_refl _)
 rw [List.take_of_length_le (by rw [ll]; exact Nat.le_refl _)] at e4
 have e5:dh (λr=>((scL (M.getD (i + 1 - cnS i j + r) []):Int):Rat)) (cnS i j)=dh (λr=>(((((M.map scL).take (i + 1)).drop (i + 1 - cnS i j)).getD r 0:Int):Rat)) (cnS i j):=jl _ λr hr=>by
   have hr':i + 1 - cnS i j + r < M.length:=by rw [t.len]; omega
   have hr2:i + 1 - cnS i j + r < i + 1:=by omega
   simp [List.getD_eq_getElem?_getD,List.getElem?_drop,List.getElem?_take,hr',hr2]
 rw [e5,<- e4,e3] at e1
 refine Rat.intCast_inj.mp ?_
 rw [Rat.intCast_mul,Rat.intCast_mul,e1,<- eP (c i j)]
 grind
theorem Bt {n b:Nat} {Ms:List (List Int)} (h:Dt n b Ms) {i j:Nat} (hi:i < n) (hj:j < n):ZB b (dtM Ms i j):=by
 have mi:=bj (xs:=Ms) (d:=[]) (i:=i) (by rw [h.len]; exact hi)
 exact ⟨_,rfl,(h.row _ mi).2 _ (bj (by rw [(h.row _ mi).1]; exact hj))⟩
noncomputable def cA (ds:List D) (r:Sl):Prop:=∃ (R C d v:Nat) (c:Nat->Nat->Rat),ds=[tbQ (mkT R C (nv (min R C) c)),tbQ (mkT R C c)]/\Mz R C c d v/\r=.d (.bl true)
section
variable {P:Program} {w:World} {K:PySem.W.Frag} {mg:Str->Option Value} {base:Heap} {k:Nat} {f:Addr} {fd:FuncData} {qual:Str}
theorem oG (F:Fun K "_law_corner" qual (top 67) f fd) (hb:∀ x ∈ aj,mg x=none) (c_l_det:Cal P w K mg base k "_law_det" mR):aN P w K mg base CX0 (k + 1) f fd ["_law_rows_here","_law_i","_law_j"] (spD K gQ):=by
 refine fnD F ji hb (by rintro _ _ ⟨_,_,_,_,_,_,rfl,_⟩; rfl) ?_
 rintro _ _ ⟨R,C,b0,i,j,Ms,rfl,h,hi,hj,rfl⟩ cdv A outer s H E b
 have nd:=ji.nd
 have hs:cnS i j<=i + 1/\cnS i j<=j + 1/\1<=cnS i j:=by unfold cnS; omega
 refine aA 3 nd (aw (bh b (ae (aa 1) (ae (aa 2) ag)) (oy b.calm)) af bB) ?_
 rw [uD]
 have dt:=h.dt hi hj
 have ln:((Ms.take (i + 1)).drop (i + 1 - cnS i j)).length=cnS i j:=by
   have:=dt.len
   unfold cnM at this
   rwa [List.length_map] at this
 refine aK (x_call b c_l_det (ae (bu (x:=.lst ((cnM Ms i j).map dtR)) (eZ (cmp 0 (g:=λl=>dtR (((Ms.take (i + 1)).drop (i + 1 - cnS i j)).getD l [])) (f:=λl=>dtR ((((((Ms.take (i + 1)).drop (i + 1 - cnS i j)).getD l []).take (j + 1)).drop (j + 1 - cnS i j)))) b (aY (bu (x:=.lst (((Ms.take (i + 1)).drop (i + 1 - cnS i j)).map dtR)) (tT (aa 0) (dN (aw (aw (aa 1) (aa 3) cY) af bB)) (dN (aw (aa 1) af bB))) (congrArg (λl=>some (D.lst l)) (sa Ms hs.1)))) (bW (f:=dtR) []) (by rw [List.length_map,ln]; have:=dt.n7; omega) λl hl s0 H0 fp=>?_)) ?_) ag) ⟨cnS i j,b0,cnM Ms i j,rfl,dt,rfl⟩) rfl
 · exact bu (tT (aa 0) (dN (aw (aw (aa 1) (aa 2) cY) af bB)) (dN (aw (aa 1) af bB))) (congrArg (λl=>some (D.lst l)) (sa _ hs.2.1))
 · refine congrArg (λl=>some (D.lst l)) ((gk (λr:List Int=>dtR ((r.take (j + 1)).drop (j + 1 - cnS i j))) ((Ms.take (i + 1)).drop (i + 1 - cnS i j)) [] (List.length_map ..)).trans ?_)
   unfold cnM
   rw [List.map_map]
   rfl
set_option maxHeartbeats 1000000 in
theorem iA (F:Fun K "_law_have_corners" qual (top 71) f fd) (hb:∀ x ∈ aj,mg x=none) (c_l_bottoms:Cal P w K mg base k "_law_bottoms" fE) (c_l_shaped:Cal P w K mg base k "_law_shaped" gP) (c_l_rows:Cal P w K mg base k "_law_rows" iI) (c_l_corner:Cal P w K mg base k "_law_corner" gQ) (c_l_bottom:Cal P w K mg base k "_law_bottom" gJ):aN P w K mg base CX0 (k + 1) f fd ["_law_found","_law_table_here"] (spD K cA):=by
 refine fnD F di hb (by rintro _ _ ⟨_,_,_,_,_,rfl,_⟩; rfl) ?_
 rintro _ _ ⟨R,C,d,v,c,rfl,h,rfl⟩ cdv A outer s H E b
 have nd:=di.nd
 have r1:=h.r1
 have r7:=h.r7
 have c1:=h.c1
 have c7:=h.c7
 have vd:=h.vd
 have cd:=h.cd
 have yq:=h.yq
 have yr:=h.yr
 have t:=gi (G:=nv (min R C) c) r1 r7 c1 c7
 have rz:=h.rz
 have mC:=λi j hi hj=>h.mC (i:=i) (j:=j) hi hj
 have lc:(mkT R C c).length=R:=cU ..
 have z1:1 + C * (d + 1)<=8999:=by omega
 have z2:v + (d + 1)<=8999:=by omega
 generalize mkT R C (nv (min R C) c)=M at yq yr t rz mC ⊢
 have bs:∀ x ∈ M.map scL,Bd (d + 1) x:=λs hs=>by
   obtain ⟨r,hr,rfl⟩:=List.mem_map.mp hs
   have:=(yr r hr).sc
   unfold Bd
   rw [Nat.pow_succ]
   have:=Nat.two_pow_pos d
   omega
 have lb:(M.map scL).length=R:=by rw [List.length_map,t.len]
 refine cu (bO (bC (x_call b c_l_shaped (ae (aa 0) (ae (aa 1) ag)) ⟨R,C,M,_,rfl,t,gi r1 r7 c1 c7,λr hr x hx=>((yq r hr x hx).sq).mono (by omega),rfl⟩))) rfl ?_
 refine aA 2 nd (aL (bu (x_call b c_l_rows (ae (aa 0) ag) ⟨R,C,d + 1,v,M,rfl,t,yq,z1,z2,rfl⟩) (rl M)) af (aO (aD (i:=0) rfl))) ?_
 refine aA 3 nd (bu (x:=.lst ((M.map scL).map .int)) (x_call b c_l_bottoms (ae (aa 0) ag) ⟨R,C,d + 1,v,M,rfl,t,yq,z1,z2,rfl⟩)) ?_
 refine cb 4 (λi τ=>∃ s4 s5 s6 s7,τ=[.d (tbQ M),.d (tbQ (mkT R C c)),.d (.lst ((whM M (M.map scL)).map dtR)),.d (.lst ((M.map scL).map .int)),s4,s5,s6,s7]) b nd (fJ b (bh b (ae (aa 1) ag) (cN (n:=R) (by rw [List.length_map]; exact lc))) (by omega) (by omega)) fo ⟨.un,.un,.un,.un,rfl⟩ (λi hi τ z=>?_) λτ z=>?_
 · obtain ⟨s4,s5,s6,s7,rfl⟩:=z
   have hi:i < R:=by rw [aF] at hi; omega
   refine cb 5 (λj τ=>∃ s5 s6 s7,τ=[.d (tbQ M),.d (tbQ (mkT R C c)),.d (.lst ((whM M (M.map scL)).map dtR)),.d (.lst ((M.map scL).map .int)),.d (.int (i:Nat)),s5,s6,s7]) b nd (fJ b (bh b (ae (aL (aa 1) af (aP (iY (i:=0) (by omega)))) ag) (cN (n:=C) (by rw [List.length_map,eW (by omega),List.length_map,List.length_range]))) (by omega) (by omega)) fo ⟨s5,s6,s7,rfl⟩ (λj hj τ z=>?_) λτ z=>?_
   · obtain ⟨s5',s6',s7',rfl⟩:=z
     have hj:j < C:=by rw [aF] at hj; omega
     refine uy (aL (aL (aa 1) (aa 4) (aP (iY hi))) (aa 5) (aP (mO hi hj))) (yH b.calm (jB 6 nd (jB 7 nd vO))) ?_
     have hs:=h.sc i hi j hj
     have hb2:min i j + 1<=R:=by omega
     have cz:=(h.bz (cnS i j) (by unfold cnS; omega) (by unfold cnS; omega)).1
     have ck:1<=cnS i j:=by unfold cnS; omega
     have bd:Bd 9000 (dtZ (cnM (whM M (M.map scL)) i j)):=by
       have dt:=rz.dt hi hj
       obtain ⟨w,e1,hw⟩:=tL (n:=cnS i j) (by unfold cnS; omega) λx hx y hy=>Bt dt hx hy
       have e2:dtZ (cnM (whM M (M.map scL)) i j)=w:=Rat.intCast_inj.mp (dt.ok.2.2.trans e1)
       rw [e2]
       exact Nat.lt_of_le_of_lt hw (Nat.pow_lt_pow_right (by decide) (by omega))
     have bp:Bd 70000 (prZ (((M.map scL).take (i + 1)).drop (i + 1 - cnS i j))):=(kz (d:=d + 1) λx hx=>bs x (List.mem_of_mem_take (List.mem_of_mem_drop hx))).mono (by
       have:(((M.map scL).take (i + 1)).drop (i + 1 - cnS i j)).length<=7:=by rw [List.length_drop,List.length_take]; omega
       have:=Nat.mul_le_mul this (show d + 1<=4001 by omega)
       omega)
     refine cu (aZ (aw (x_call b c_l_corner (ae (aa 2) (ae (aa 4) (ae (aa 5) ag))) ⟨R,C,v,i,j,_,rfl,rz,hi,hj,rfl⟩) (aa 7) (aU (bd.aC hs.den (by decide) (by decide)))) (aw (aa 6) (x_call b c_l_bottom (ae (aa 3) (ae (aa 4) (ae (aa 5) ag))) ⟨M.map scL,d + 1,i,j,rfl,by omega,bs,by omega,rfl⟩) (aU (hs.num.aC bp (by decide) (by decide)))) jM) ?_ (aV ⟨_,_,_,rfl⟩)
     rw [decide_eq_true (mC i j hi hj)]
     rfl
   · obtain ⟨s5',s6',s7',rfl⟩:=z
     exact aV ⟨_,_,_,_,rfl⟩
 · obtain ⟨s4,s5,s6,s7,rfl⟩:=z
   exact aK kW rfl
end
end K59
namespace Hy
open PySem PySem.Spec PyProof.Rows L2
open Ev (D Den aq)
theorem Ao {es:List Expr} {m:Nat} {p:Pos} {r:List Expr} {env:Env}:starEach (.Tuple es m p :: r) env=(false,eval (.Tuple es m p) env) :: starEach r env:=rfl
theorem zL {es:List Expr} {p:Pos} {r:List Expr} {env:Env}:starEach (.List es p :: r) env=(false,eval (.List es p) env) :: starEach r env:=rfl
theorem vJ {c:Const} {m:Nat} {p:Pos} {r:List Expr} {env:Env}:starEach (.Constant c m p :: r) env=(false,eval (.Constant c m p) env) :: starEach r env:=rfl
section
variable {X:Cx} {C:Bool} {τ:List Sl} {x:D} {ds:List D} {es r:List Expr} {a b:Expr} {m:Nat} {p pos:Pos}
structure QE (X:Cx) (e:Expr) (t:TE):Prop where
 out:PE X e t
structure QA (X:Cx) (es:List Expr) (t:TA):Prop where
 out:PA X es t
variable {xs:List D}
theorem cQ:QA X [] (dA X.K C τ []):=⟨ag⟩
theorem nM (h:QA X es (dA X.K C τ ds)) (hr:QA X r (dA X.K C τ xs)) (hl:Nat.ble ds.length 1000=true:=by rfl):QA X (.Tuple es m pos :: r) (dA X.K C τ (.tup ds :: xs)):=⟨ae (fj h.out hl) hr.out Ao⟩
theorem gE (h:QA X es (dA X.K C τ ds)) (hr:QA X r (dA X.K C τ xs)) (hl:Nat.ble ds.length 1000=true:=by rfl):QA X (.List es pos :: r) (dA X.K C τ (.lst ds :: xs)):=⟨ae (bu (cw h.out hl)) hr.out zL⟩
theorem fY {n:Int} (hr:QA X r (dA X.K C τ xs)):QA X (.Constant (.int n) m pos :: r) (dA X.K C τ (.int n :: xs)):=⟨ae af hr.out vJ⟩
theorem A0 (hr:QA X r (dA X.K C τ xs)):QA X (.Constant .none m pos :: r) (dA X.K C τ (.non :: xs)):=⟨ae qP hr.out vJ⟩
theorem Bl (h:QA X es (dA X.K C τ ds)) (hl:Nat.ble ds.length 1000=true:=by rfl):QE X (.List es pos) (dE X.K C τ (.o ds)):=⟨cw h.out hl⟩
structure PQ (X:Cx) (body:List Stmt) (t:TS):Prop where
 out:PSs X body t
variable {s:Sl} {N:Po} {rest:List Stmt} {e:Expr} {y:D}
theorem Be (i:Nat) {n:Str} {p:Pos} (hN:X.N.Nodup) (he:QE X e (dE X.K true τ s)) (hr:PQ X rest (dS X.K (τ.set i s) N)) (hi:X.N[i]?=some n:=by rfl) (hx:Loc X.env.scope n:=by first | exact .inl rfl | exact .inr rfl) (hs:swapsWith e (some (.Name n p)) pos.line X.env=pure false:=by rfl)
   (hf:X.fn n=true\/X.env.scope.names.lookup n=some .local:=by first | exact .inl rfl | exact .inr rfl | assumption):PQ X (.Assign [.Name n p] e pos :: rest) (dS X.K τ N):=⟨aA i hN he.out hr.out hi hx hs hf⟩
theorem CM (i:Nat) {s:Sl} {x:D} (h:PQ X rest (dS X.K (τ.set i (.d x)) N)) (hi:τ[i]?=some s:=by rfl) (hx:fzD s=some x:=by rfl):PQ X rest (dS X.K τ N):=⟨ny i h.out hi hx⟩
end
section
variable {P:Program} {w:World} {K:PySem.W.Frag} {mg:Str->Option Value} {base:Heap}
end
end Hy
namespace K59
open PySem PySem.Spec PyProof.Rows L2 Hy
open Ev (D Den aq aC aB)
noncomputable def A7:List D:=[.non,.lst [],.lst [.lst []],.lst [.lst [.int 1]],.lst [.lst [.tup [.int 1,.int 1],.tup [.int 0,.int 2]]],.lst [.lst [.tup [.int 1,.int 1]],.lst [.tup [.int 1,.int 1],.tup [.int 1,.int 1]]]]
theorem Af {z:Int} (h:0<=z/\z < 6):∃ x,atI A7 z=some x/\sx x=false:=by
 rcases (by omega:z=0\/z=1\/z=2\/z=3\/z=4\/z=5) with h | h | h | h | h | h <;> subst h
 · exact ⟨_,rfl,rfl⟩
 · exact ⟨_,rfl,rfl⟩
 · exact ⟨_,rfl,rfl⟩
 · exact ⟨_,rfl,rfl⟩
 · exact ⟨_,rfl,by decide⟩
 · exact ⟨_,rfl,by decide⟩
theorem ye (M:List (List Rat)):((List.range M.length).map λi=>((M.getD i []).map frD).any λz=>Ev.eqD z (frD 0))=M.map λr=>(r.map frD).any λz=>Ev.eqD z (frD 0):=by
 refine List.ext_getElem (by simp) λi h1 h2=>?_
 have:i < M.length:=by simpa using h2
 simp [this]
theorem zK (ns:List Int):((mkT (bD ns) (a8 ns) (dZ ns)).map λr=>(r.map frD).any λz=>Ev.eqD z (frD 0)).any id=jQ ns/\(jQ ns=true->u3 (tbQ (mkT (bD ns) (a8 ns) (dZ ns)))):=by
 obtain ⟨r1,r7,c1,c7⟩:=yQ ns
 cases hz:jQ ns with
 | false=>
   refine ⟨?_,λz=>nomatch z⟩
   obtain ⟨d,v,h⟩:=Ct ns hz
   rw [List.any_map]
   refine List.any_eq_false.mpr λr hr=>?_
   unfold mkT at hr
   obtain ⟨i,hi,rfl⟩:=List.mem_map.mp hr
   show ¬ (((List.range (a8 ns)).map (dZ ns i)).map frD).any (λz=>Ev.eqD z (frD 0))=true
   rw [List.map_map,List.any_map]
   intro y
   obtain ⟨j,_,y⟩:=List.any_eq_true.mp y
   have:Ev.eqD (frD (dZ ns i j)) (frD 0)=false:=yz (h.ne i j)
   have y:Ev.eqD (frD (dZ ns i j)) (frD 0)=true:=y
   rw [this] at y
   cases y
 | true=>
   have hI:((dP9 ns).getD 2 0).toNat / a8 ns % bD ns < bD ns:=Nat.mod_lt _ (by omega)
   have hJ:((dP9 ns).getD 2 0).toNat % a8 ns < a8 ns:=Nat.mod_lt _ (by omega)
   have e:dZ ns (((dP9 ns).getD 2 0).toNat / a8 ns % bD ns) (((dP9 ns).getD 2 0).toNat % a8 ns)=0:=by
     unfold dZ dU
     rw [if_pos ⟨hz,rfl,rfl⟩]
   generalize ((dP9 ns).getD 2 0).toNat / a8 ns % bD ns=i at hI e
   generalize ((dP9 ns).getD 2 0).toNat % a8 ns=j at hJ e
   refine ⟨?_,λ_=>⟨_,_,_,i,j,rfl,r1,r7,c1,c7,hI,hJ,e⟩⟩
   rw [List.any_map]
   refine List.any_eq_true.mpr ⟨(List.range (a8 ns)).map (dZ ns i),by unfold mkT; exact List.mem_map.mpr ⟨i,List.mem_range.mpr hI,rfl⟩,?_⟩
   show (((List.range (a8 ns)).map (dZ ns i)).map frD).any (λz=>Ev.eqD z (frD 0))=true
   rw [List.map_map]
   refine List.any_eq_true.mpr ⟨frD (dZ ns i j),List.mem_map.mpr ⟨j,List.mem_range.mpr hJ,rfl⟩,?_⟩
   rw [e]
   exact cX _
theorem yk:∀ r:List Rat,dM ((r.map frD).map .d)=true
 | []=>rfl
 | _ :: r=>by
   rw [List.map_cons,List.map_cons,dM,yk r]
   rfl
theorem vy:∀ M:List (List Rat),dM (M.map rwF)=true
 | []=>rfl
 | r :: M=>by
   rw [List.map_cons,dM,vy M,Bool.and_true]
   show hV (.l ((r.map frD).map .d))=true
   rw [hV]
   exact yk r
theorem yJ (M:List (List Rat)):(List.range (M.map rwQ).length).map (λi=>rwF (M.getD i []))=M.map rwF:=by
 refine List.ext_getElem (by simp) λi h1 h2=>?_
 have:i < M.length:=by simpa using h2
 simp [this]
theorem A8 {a b c d e:D} {M:List (List Rat)}:∀ (i:Nat) (t:Nd),([.d a,.d b,.d c,.d d,.d e,.n (cT M),.un]:List Sl)[i]?=some (Sl.n t)->ek t=true
 | 0,_,h=>by cases h
 | 1,_,h=>by cases h
 | 2,_,h=>by cases h
 | 3,_,h=>by cases h
 | 4,_,h=>by cases h
 | 5,_,h=>by cases h; exact rO _
 | 6,_,h=>by cases h
 | _ + 7,_,h=>by cases h
noncomputable def r6 (ds:List D) (r:Sl):Prop:=∃ ns:List Int,ns.length<=63/\ds=[.lst (ns.map .int)]/\r=.d (.bl true)
section
variable {P:Program} {w:World} {K:PySem.W.Frag} {mg:Str->Option Value} {base:Heap} {k:Nat} {f:Addr} {fd:FuncData} {qual:Str}
set_option maxHeartbeats 400000 in
theorem AM (F:Fun K "law" qual (top 74) f fd) (hb:∀ x ∈ aj,mg x=none) (c_l_drawn:Cal P w K mg base k "_law_drawn" i9) (c_made_by:Cal P w K mg base k "made_by" jf) (c_l_cell:Cal P w K mg base k "_law_cell" iJ) (c_l_refused:Cal P w K mg base k "_law_refused" fO) (c_l_have_corners:Cal P w K mg base k "_law_have_corners" cA) (c_corners:Cal P w K mg base k "corners" i4):aN P w K mg base CX0 (k + 1) f fd ["_law_script"] (spD K r6):=by
 refine fnD F vU hb (by rintro _ _ ⟨_,_,rfl,_⟩; rfl) ?_
 rintro _ _ ⟨ns,_,rfl,rfl⟩ cdv A outer s H E b
 have nd:=vU.nd
 obtain ⟨r1,r7,c1,c7⟩:=yQ ns
 obtain ⟨z1,z2⟩:=zK ns
 have z3:=Ct ns
 refine aA 1 nd (s:=.d (tbQ (mkT (bD ns) (a8 ns) (dZ ns)))) (bu (x_call b c_l_drawn (ae (aa 0) ag) ⟨ns,rfl,rfl⟩) (congrArg some (gO _))) ?_
 generalize jQ ns=zero at z1 z2 z3
 generalize bD ns=R at r1 r7 z1 z2 z3 ⊢
 generalize a8 ns=C at c1 c7 z1 z2 z3 ⊢
 generalize dZ ns=c at z1 z2 z3 ⊢
 have lM:(mkT R C c).length=R:=cU ..
 refine pU 2 nd (s:=.d (tbQ (mkT R C c))) (cmp 0 (g:=λi=>rwQ ((mkT R C c).getD i [])) (f:=λi=>rwQ ((mkT R C c).getD i [])) b (aY (aa 1)) (bW (f:=rwQ) (xs:=mkT R C c) []) (by rw [List.length_map,lM]; omega) λi hi s0 H0 fp=>bu (AN (b.comp s0 H0 _ fp) (ae (aa 0) ag) qe)) (.inr ?_) ?_
 · exact congrArg (λl=>Sl.d (D.lst l)) (gk rwQ (mkT R C c) [] (List.length_map ..)).symm
 have fm:=fmn (a:=ns.getD 3 0) (b:=6) (by decide)
 obtain ⟨od,ho,no⟩:=Af fm
 refine PQ.out ?_
 refine Be 3 nd (Bl (A0 (gE cQ (gE (gE cQ cQ) (gE (gE (fY cQ) cQ) (gE (gE (nM (fY (fY cQ)) (nM (fY (fY cQ)) cQ)) cQ) (gE (gE (nM (fY (fY cQ)) cQ) (gE (nM (fY (fY cQ)) (nM (fY (fY cQ)) cQ)) cQ)) cQ))))))) ?_
 refine CM 3 (x:=.lst A7) ?_
 refine ⟨?_⟩
 refine aA 4 nd (aL (aa 3) (aw (x_call b c_l_cell (ae (aa 0) (ae af ag)) ⟨ns,3,rfl,rfl⟩) af (b7 (by decide))) (aP ho)) ?_
 refine cu (PW.pt (d8 (aZ (x_call b c_l_refused (ae (aa 4) (ae kW ag)) ⟨od,true,1,rfl,.inl ⟨no,rfl⟩,rfl⟩) bH ym) λh=>(df (aZ (x_call b c_l_refused (ae (aa 4) (ae kW ag)) ⟨od,false,1,rfl,.inl ⟨no,rfl⟩,rfl⟩) bH ym)))) (by decide) ?_
 refine cv (bC (bh b (ae (bu (x:=.lst ((((mkT R C c).map λr=>(r.map frD).any λz=>Ev.eqD z (frD 0))).map .bl)) (eZ (cmp 0 (g:=λi=>rwQ ((mkT R C c).getD i [])) (f:=λi=>.bl ((((mkT R C c).getD i []).map frD).any (λz=>Ev.eqD z (frD 0)))) b (aY (aa 1)) (bW (f:=rwQ) (xs:=mkT R C c) []) (by rw [List.length_map,lM]; omega) λi hi s0 H0 fp=>(fh (fj (ae af (ae af ag))) (aa 0) (uF (b.comp s0 H0 _ fp) (qW 0) λz hz=>?_)))) ?_) ag) (vb b.calm ((mkT R C c).map λr=>(r.map frD).any λz=>Ev.eqD z (frD 0)) rfl))) (λhz=>?_) λhz=>?_
 · obtain ⟨q,_,rfl⟩:=List.mem_map.mp hz
   exact qW q
 · rw [<- ye,List.map_map,List.length_map]
   rfl
 · have hz:zero=true:=z1.symm.trans hz
   refine aK (fP (fh (x_call b c_l_refused (ae (aa 2) (ae kW ag)) ⟨_,false,12,rfl,.inr ⟨rfl,z2 hz,rfl⟩,rfl⟩) bH BO) λh=>(iu (fh (aa 2) (aa 1) (vA b (dD _) (dD _))))) ?_
   rw [cX]
   rfl
 have hz:zero=false:=z1.symm.trans hz
 obtain ⟨d,v,mz⟩:=z3 hz
 clear z1 z2 z3
 refine aA 5 nd (x_call b c_made_by (ae (aa 2) ag) ⟨R,C,d,v,c,rfl,mz,rfl⟩) ?_
 have t:=gi (G:=nv (min R C) c) r1 r7 c1 c7
 have ec:mkT R C (coQ (mkT R C (nv (min R C) c)))=mkT R C c:=ja λi hi j hj=>v9 mz.ne hi hj (by omega)
 refine cu (PW.pt (d8 (bO (bC (x_call b c_l_have_corners (ae (uQ (fN 5) rfl rfl) (ae (aa 1) ag)) ⟨R,C,d,v,c,by rw [gO]; rfl,mz,rfl⟩))) λh=>(d8 (aZ (aa 2) (aa 1) (yP b (dD _) (dD _))) λh=>(df (aZ (bu (x:=tbQ (mkT R C c)) (x_call b c_corners (ae (uQ (fN 5) rfl rfl) ag) ⟨R,C,d,v,_,by rw [gO]; rfl,t,mz.yr,mz.bz,by have:=mz.vd; omega,rfl⟩) (by rw [<- ec]; rfl)) (aa 1) (yP b (dD _) (dD _))))))) ?_ ?_
 · rw [cX]
   rfl
 have lN:(mkT R C (nv (min R C) c)).length=R:=cU ..
 refine w4 6 5 (s0:=.n (cT (mkT R C (nv (min R C) c)))) (x:=tbQ (mkT R C (nv (min R C) c))) nd (Ab 0 (g:=λi=>rwQ ((mkT R C (nv (min R C) c)).getD i [])) (f:=λi=>rwF ((mkT R C (nv (min R C) c)).getD i [])) (S':=λi=>.o (((mkT R C (nv (min R C) c)).getD i []).map frD)) b (aY (aa 5)) (bW (f:=rwQ) (xs:=mkT R C (nv (min R C) c)) []) (by rw [List.length_map,lN]; omega) (λi hi s0 H0 fp=>(AN (b.comp s0 H0 _ fp) (ae (aa 0) ag) qe)) λi hi=>?_) ?_ ?_ ?_ (hx:=congrArg some (gO _))
 · rfl
 · rw [yJ]
   exact vy _
 · exact A8
 rw [yJ]
 refine vh (pt:=[]++[0]) (xs:=((((mkT R C (nv (min R C) c)).getD 0 []).map frD).map .d)) (vZ (fN 5) af rfl rfl (pC (i:=0) (by omega))) rfl (mD (by omega)) ?_
 refine vh (pt:=[]) (fN 5) rfl rfl ?_
 refine ny 6 (x:=tbQ (mkT R C (nv (min R C) c))) ?_ rfl (congrArg some (gO _))
 refine aK (fP (fh (bu (x:=tbQ (mkT R C (nv (min R C) c))) (x_call b c_made_by (ae (aa 2) ag) ⟨R,C,d,v,c,rfl,mz,rfl⟩) (congrArg some (gO _))) (aa 6) (vA b (dD _) (dD _))) λh=>(iu (fh (aa 2) (aa 1) (vA b (dD _) (dD _))))) ?_
 rw [cX,cX]
 rfl
end
end K59
namespace Hy
open PySem PySem.Spec PyProof.Rows L2
open Ev (D Den aq)
theorem _root_.L2.Fun.zN {K:PySem.W.Frag} {x qual:Str} {st:Stmt} {f T:Addr} {fd:FuncData} {ps:List Str} {c:Value} {d:Option Addr} {items:Array Value} {n:Nat} {sl:Array (Option Value)} (_:L2.Fun K x qual st f fd) (hd:fd.defaults=.ref T) (lT:K.lookup T=some ⟨c,d,.seq items n,sl⟩)
   (h:∀ us:List Value,us.length=ps.length->∃ k,bindArgs fd ⟨us,[]⟩=seqItems? fd.defaults >>= k/\k (some items)=pure (ps.zip us)):L2.Binds K fd ps []:=λs us X hl=>by
 rw [List.append_nil] at hl ⊢
 obtain ⟨k,h1,h2⟩:=h us hl
 exact .of_defaults hd (X _ _ lT) rfl h1 h2
noncomputable def u5 (K:PySem.W.Frag) (x:Str) (st:Stmt) (f:Addr) (i:Int):Prop:=PySem.W.nsIn K mainGlobals x=some (some (.ref f))/\(∃ oc od kV dc pm an cd ct sl T td tl tc tt tn,K.lookup f=some ⟨oc,od,.func (PySem.W.fnOf x x (cD st) (bK st) (ah st) (.ref T) kV dc pm an cd ct),sl⟩/\PySem.W.codeIn K cd x=true/\K.lookup T=some ⟨tc,td,.seq #[.int i tt] tn,tl⟩)/\PySem.W.keepIn K (.ref f)=true
section
variable {P:Program} {w:World} {K:PySem.W.Frag} {h:Heap} {mg:Str->Option Value} {base:Heap} {x:Str} {st:Stmt} {f:Addr} {ps:List Str} {k:Nat} {Φ:List D->Sl->Prop} {i:Int}
theorem u5.of {oc tc:Value} {od an td:Option Addr} {kV dc pm cd ct:Value} {sl tl:Array (Option Value)} {T:Addr} {tt:Tok} {tn:Nat} (a:PySem.W.nsIn K mainGlobals x=some (some (.ref f))) (l:K.lookup f=some ⟨oc,od,.func (PySem.W.fnOf x x (cD st) (bK st) (ah st) (.ref T) kV dc pm an cd ct),sl⟩) (c:PySem.W.codeIn K cd x=true) (d:K.lookup T=some ⟨tc,td,.seq #[.int i tt] tn,tl⟩) (k:PySem.W.keepIn K (.ref f)=true):u5 K x st f i:=⟨a,⟨_,_,_,_,_,_,_,_,_,_,_,_,_,_,_,l,c,d⟩,k⟩
theorem u5.cal (d:u5 K x st f i) (X:K.In h) (G:h.Ns mainGlobals mg) (b:∀ (T:Addr) (tt:Tok) (kV dc pm:Value) (an:Option Addr) (cd ct:Value) (us:List Value),us.length=ps.length->∃ k,bindArgs (PySem.W.fnOf x x (cD st) (bK st) (ah st) (.ref T) kV dc pm an cd ct) ⟨us,[]⟩=seqItems? (.ref T) >>= k/\k (some #[.int i tt])=pure (ps.zip us))
   (o:∀ fd,Fun K x x st f fd->aN P w K mg base CX0 k f fd ps (spD K Φ)):Cal P w K mg base k x Φ:=by
 obtain ⟨a,⟨oc,od,kV,dc,pm,an,cd,ct,sl,T,td,tl,tc,tt,tn,l,c',dt⟩,q⟩:=d
 have F:=qx l c' q
 exact ⟨f,_,ps,o _ F,PySem.W.mg_of X G a,q,F.zN rfl dt (b T tt kV dc pm an cd ct)⟩
end
end Hy
namespace K59
open PySem PySem.Spec PyProof.Rows L2 Hy
set_option maxHeartbeats 0 in
theorem all_mk {l:PySem.W.OpenLaw} {w:World} {K:PySem.W.Frag} {h:Heap} {mg:Str->Option Value} {fa f0 f1 f2 f3 f4 f5 f6 f7 f8 f9 f10 f11 f12 f13 f14 f15 f16 f17 f18 f19 f20 f21 f22 f23 f24 f25 f26 f27 f28 f29 f30 f31 f32 f33 f34 f35 f36 f37 f38 f39 f40 f41 f42 f43 f44 f45 f46:Addr} {t0:Tok} {SM C0 C1 C2 C3 C4 C5 C6 C7 C8 C9 C10 C11 C12 C13 C14 C15 C16 C17 C18:Addr} {ab:Addr} {tb1 tb2:Tok} {nb:Nat} {db:Option Addr} {sb:Array (Option Value)} (X:K.In h) (G:h.Ns mainGlobals mg) (hfa:mg "law" = some (.ref fa))
   (h0:Dfn K "_law_numbers" (top 56) f0) (h1:Dfn K "_law_size" (top 61) f1) (h2:Dfn K "_law_cell" (top 55) f2) (h3:Dfn K "_law_divisor" (top 57) f3) (h4:Dfn K "_law_made" (top 58) f4) (h5:Dfn K "_law_number" (top 59) f5) (h6:Dfn K "_law_table" (top 60) f6) (h7:Dfn K "_law_drawn" (top 72) f7) (h8:Dfn K "is_short_list" (top 34) f8) (h9:Dfn K "is_whole" (top 23) f9) (h10:Dfn K "common_divisor" (top 25) f10) (h11:Dfn K "is_fraction" (top 24) f11) (h12:Dfn K "is_row" (top 35) f12) (h13:Dfn K "is_table" (top 36) f13) (h14:Dfn K "look_table" (top 37) f14) (h15:Dfn K "sum_of" (top 28) f15) (h16:Dfn K "rest_of" (top 29) f16) (h17:Dfn K "product_of" (top 30) f17) (h18:Dfn K "in_lowest_terms" (top 26) f18) (h19:Dfn K "quotient_of" (top 31) f19) (h20:Dfn K "look_square" (top 40) f20) (h21:u5 K "fraction" (top 27) f21 (1)) (h22:Dfn K "scale_of" (top 41) f22) (h23:Dfn K "pivot_place" (top 46) f23) (h24:Dfn K "cleared" (top 47) f24) (h25:Dfn K "whole_determinant" (top 45) f25) (h26:Dfn K "product_of_all" (top 44) f26) (h27:Dfn K "whole_row" (top 42) f27) (h28:Dfn K "whole_rows" (top 43) f28) (h29:Dfn K "square_determinant" (top 39) f29) (h30:Dfn K "corner_part" (top 51) f30) (h31:Dfn K "number_for_corner" (top 53) f31) (h32:Dfn K "made_by" (top 52) f32) (h33:Dfn K "corners_in_row" (top 50) f33) (h34:Dfn K "corners" (top 49) f34) (h35:Dfn K "_law_word" (top 66) f35) (h36:Dfn K "_law_refused" (top 73) f36) (h37:Dfn K "_law_rows" (top 64) f37) (h38:Dfn K "_law_bottoms" (top 69) f38) (h39:Dfn K "_law_whole" (top 62) f39) (h40:Dfn K "_law_is_number" (top 63) f40) (h41:Dfn K "_law_shaped" (top 70) f41) (h42:Dfn K "_law_det" (top 65) f42) (h43:Dfn K "_law_corner" (top 67) f43) (h44:Dfn K "_law_bottom" (top 68) f44) (h45:Dfn K "_law_have_corners" (top 71) f45) (h46:Dfn K "law" (top 74) f46) (hz:nsL K aj) (z0:PySem.W.nsIn K mainGlobals "MOST" = some (some (.int 7 t0))) (aS:PySem.W.nsIn K mainGlobals "SmoothError" = some (some (.ref SM))) (SS:wW K SM) (zV:PySem.W.nsIn K mainGlobals "ValueError" = some none) (gG:PySem.W.specialIn K (.builtin "object.__class__") "__get__" = some (some (.builtin "getset_descriptor.__get__"))) (gT:PySem.W.takesIn K (.builtin "object.__class__")=some true) (NN:Nss K ["NoFraction","NoTable","NoChoice","NoSquare","NoFit","NoUndoing","NoLadder","TooMany","NoPaper","NoRow","NoStairs","NoNumber","NoCorner","NoName","NoStep","NoWeight","NoDeed","NoText","NoWord"] [C0,C1,C2,C3,C4,C5,C6,C7,C8,C9,C10,C11,C12,C13,C14,C15,C16,C17,C18]) (TT:Tys K [C0,C1,C2,C3,C4,C5,C6,C7,C8,C9,C10,C11,C12,C13,C14,C15,C16,C17,C18]) (r1:uW K SM C1) (u1:Off K C1 [C0]) (v1:Off K C1 [C2,C3,C4,C5,C6,C7,C8,C9,C10,C11,C12,C13,C14,C15,C16,C17,C18]) (r12:uW K SM C12) (u12:Off K C12 [C0,C1,C2,C3,C4,C5,C6,C7,C8,C9,C10,C11]) (v12:Off K C12 [C13,C14,C15,C16,C17,C18]) (zb:PySem.W.nsIn K mainGlobals "NOUGHT" = some (some (.ref ab))) (zl:K.lookup ab=some ⟨.type "tuple",db,.seq #[.int 0 tb1,.int 1 tb2] nb,sb⟩) :
   ∃ fd:FuncData,(∀ (s:Shared) (v:Value),BindsTo s fd ⟨[v],[]⟩ [("_law_script",v)])/\∀ base:Heap,K.In base->base.Ns mainGlobals mg->aN l.prog w K mg base CX0 8 fa fd ["_law_script"] (spD K r6):=by
 have hb:=hz.none X G
 have y_MOST:∃ t,mg "MOST" = some (.int 7 t):=⟨_,PySem.W.mg_of X G z0⟩
 obtain ⟨cl,Z⟩:∃ cl,Cls K mg cl [1,12]:=Bg X G aS SS zV gG gT NN (by decide) TT rfl (by
   intro c hc
   simp only [List.mem_cons,List.not_mem_nil,or_false] at hc
   rcases hc with rfl | rfl
   · exact ⟨by decide,r1,u1,v1⟩
   · exact ⟨by decide,r12,u12,v12⟩)
 have y_NOUGHT:Mk1 K mg "NOUGHT" 0 1:=⟨ab,PySem.W.mg_of X G zb,λH=>.inr ⟨_,_,_,zl,rfl,rfl,(by show 2<=sizeLine; decide),.cons ⟨_,rfl⟩ (.cons ⟨_,rfl⟩ .nil)⟩⟩
 obtain ⟨a,⟨oc,od,kV,dc,pm,an,cd,ct,sl,l0,c⟩,r⟩:=h46
 cases hfa.symm.trans (PySem.W.mg_of X G a)
 refine ⟨PySem.W.fnOf "law" "law" (cD (top 74)) (bK (top 74)) (ah (top 74)) .none kV dc pm an cd ct,λs v=>.of_eq rfl,λbase _ _=>?_⟩
 have c_l_numbers:Cal l.prog w K mg base 1 "_law_numbers" cJ:=h0.cal (ps:=["_law_cell_here","_law_bases"]) X G (λ_ _ _ _ _ _=>Hy.bd2 λ_ _=>rfl) λ_ F=>nL (k:=0) F hb
 have c_l_size:Cal l.prog w K mg base 2 "_law_size" jO:=h1.cal (ps:=["_law_cell_here"]) X G (λ_ _ _ _ _ _=>Hy.bd1 λ_=>rfl) λ_ F=>sA (k:=1) F hb c_l_numbers
 have c_l_cell:Cal l.prog w K mg base 1 "_law_cell" iJ:=h2.cal (ps:=["_law_script","_law_k"]) X G (λ_ _ _ _ _ _=>Hy.bd2 λ_ _=>rfl) λ_ F=>sr (k:=0) F hb
 have c_l_divisor:Cal l.prog w K mg base 1 "_law_divisor" cL:=h3.cal (ps:=["_law_one","_law_other"]) X G (λ_ _ _ _ _ _=>Hy.bd2 λ_ _=>rfl) λ_ F=>mH (k:=0) F hb
 have c_l_made:Cal l.prog w K mg base 2 "_law_made" kH:=h4.cal (ps:=["_law_top","_law_bottom_here"]) X G (λ_ _ _ _ _ _=>Hy.bd2 λ_ _=>rfl) λ_ F=>sL (k:=1) F hb c_l_divisor
 have c_l_number:Cal l.prog w K mg base 3 "_law_number" gX:=h5.cal (ps:=["_law_kind","_law_part"]) X G (λ_ _ _ _ _ _=>Hy.bd2 λ_ _=>rfl) λ_ F=>oo (k:=2) F hb c_l_made
 have c_l_table:Cal l.prog w K mg base 4 "_law_table" i8:=h6.cal (ps:=["_law_cell_here","_law_many","_law_wide","_law_kind"]) X G (λ_ _ _ _ _ _=>Hy.bd4 λ_ _ _ _=>rfl) λ_ F=>pR (k:=3) F hb (c_l_numbers.mono (by decide)) c_l_number
 have c_l_drawn:Cal l.prog w K mg base 5 "_law_drawn" i9:=h7.cal (ps:=["_law_script"]) X G (λ_ _ _ _ _ _=>Hy.bd1 λ_=>rfl) λ_ F=>qm (k:=4) F hb (c_l_size.mono (by decide)) (c_l_numbers.mono (by decide)) (c_l_cell.mono (by decide)) c_l_table
 have c_is_short_list:Cal l.prog w K mg base 1 "is_short_list" bX:=h8.cal (ps:=["thing"]) X G (λ_ _ _ _ _ _=>Hy.bd1 λ_=>rfl) λ_ F=>iQ (k:=0) F hb y_MOST
 have c_is_short_list2:Cal l.prog w K mg base 1 "is_short_list" bP:=h8.cal (ps:=["thing"]) X G (λ_ _ _ _ _ _=>Hy.bd1 λ_=>rfl) λ_ F=>hZ (k:=0) F hb y_MOST
 have c_is_whole:Cal l.prog w K mg base 1 "is_whole" eU:=h9.cal (ps:=["thing"]) X G (λ_ _ _ _ _ _=>Hy.bd1 λ_=>rfl) λ_ F=>oR (k:=0) F hb
 have c_common_divisor:Cal l.prog w K mg base 1 "common_divisor" aX:=h10.cal (ps:=["one","other"]) X G (λ_ _ _ _ _ _=>Hy.bd2 λ_ _=>rfl) λ_ F=>iC (k:=0) F hb
 have c_is_fraction:Cal l.prog w K mg base 2 "is_fraction" cC:=h11.cal (ps:=["thing"]) X G (λ_ _ _ _ _ _=>Hy.bd1 λ_=>rfl) λ_ F=>jN (k:=1) F hb c_is_whole c_common_divisor
 have c_is_row:Cal l.prog w K mg base 3 "is_row" kO:=h12.cal (ps:=["thing"]) X G (λ_ _ _ _ _ _=>Hy.bd1 λ_=>rfl) λ_ F=>sR (k:=2) F hb (c_is_short_list.mono (by decide)) c_is_fraction
 have c_is_row2:Cal l.prog w K mg base 3 "is_row" jb:=h12.cal (ps:=["thing"]) X G (λ_ _ _ _ _ _=>Hy.bd1 λ_=>rfl) λ_ F=>qv (k:=2) F hb  (c_is_short_list2.mono (by decide)) (c_is_fraction.mono (by decide))
 have c_is_table:Cal l.prog w K mg base 4 "is_table" gN:=h13.cal (ps:=["thing"]) X G (λ_ _ _ _ _ _=>Hy.bd1 λ_=>rfl) λ_ F=>oV (k:=3) F hb (c_is_short_list.mono (by decide)) c_is_row
 have c_is_table2:Cal l.prog w K mg base 4 "is_table" fX:=h13.cal (ps:=["thing"]) X G (λ_ _ _ _ _ _=>Hy.bd1 λ_=>rfl) λ_ F=>mX (k:=3) F hb  (c_is_short_list2.mono (by decide)) (c_is_row2.mono (by decide))
 have c_look_table:Cal l.prog w K mg base 5 "look_table" cc:=h14.cal (ps:=["thing"]) X G (λ_ _ _ _ _ _=>Hy.bd1 λ_=>rfl) λ_ F=>kQ (k:=4) F hb c_is_table
 have x_look_table:jw l.prog w K mg base cl 5 "look_table" j1:=h14.zD (ps:=["thing"]) X G (λ_ _ _ _ _ _=>Hy.bd1 λ_=>rfl) λ_ F=>kT (k:=4) F hb Z (by decide) (c_is_table2.mono (by decide))
 have c_sum_of:Cal l.prog w K mg base 2 "sum_of" ko:=h15.cal (ps:=["one","other"]) X G (λ_ _ _ _ _ _=>Hy.bd2 λ_ _=>rfl) λ_ F=>tm (k:=1) F hb c_common_divisor
 have c_rest_of:Cal l.prog w K mg base 3 "rest_of" iO:=h16.cal (ps:=["one","other"]) X G (λ_ _ _ _ _ _=>Hy.bd2 λ_ _=>rfl) λ_ F=>pI (k:=2) F hb c_sum_of
 have c_product_of:Cal l.prog w K mg base 2 "product_of" eR:=h17.cal (ps:=["one","other"]) X G (λ_ _ _ _ _ _=>Hy.bd2 λ_ _=>rfl) λ_ F=>kR (k:=1) F hb c_common_divisor
 have c_in_lowest_terms:Cal l.prog w K mg base 2 "in_lowest_terms" bI:=h18.cal (ps:=["top","bottom"]) X G (λ_ _ _ _ _ _=>Hy.bd2 λ_ _=>rfl) λ_ F=>gH (k:=1) F hb c_common_divisor
 have c_quotient_of:Cal l.prog w K mg base 3 "quotient_of" dR:=h19.cal (ps:=["one","other"]) X G (λ_ _ _ _ _ _=>Hy.bd2 λ_ _=>rfl) λ_ F=>kr (k:=2) F hb c_product_of c_in_lowest_terms
 have c_look_square:Cal l.prog w K mg base 1 "look_square" dQ:=h20.cal (ps:=["table"]) X G (λ_ _ _ _ _ _=>Hy.bd1 λ_=>rfl) λ_ F=>kG (k:=0) F hb
 have c_fraction:Cal l.prog w K mg base 3 "fraction" gK:=h21.cal (ps:=["top","bottom"]) X G (λ_ _ _ _ _ _ _ _=>Hy.bd2 λ_ _=>⟨_,rfl,rfl⟩) λ_ F=>ou (k:=2) F hb c_in_lowest_terms (c_is_whole.mono (by decide))
 have c_scale_of:Cal l.prog w K mg base 2 "scale_of" gS:=h22.cal (ps:=["row"]) X G (λ_ _ _ _ _ _=>Hy.bd1 λ_=>rfl) λ_ F=>n8 (k:=1) F hb c_common_divisor
 have c_pivot_place:Cal l.prog w K mg base 1 "pivot_place" dH:=h23.cal (ps:=["grid","k"]) X G (λ_ _ _ _ _ _=>Hy.bd2 λ_ _=>rfl) λ_ F=>jZ (k:=0) F hb
 have c_cleared:Cal l.prog w K mg base 1 "cleared" i7:=h24.cal (ps:=["row","pivot_row","k","last"]) X G (λ_ _ _ _ _ _=>Hy.bd4 λ_ _ _ _=>rfl) λ_ F=>pD (k:=0) F hb
 have c_whole_determinant:Cal l.prog w K mg base 2 "whole_determinant" bV:=h25.cal (ps:=["rows"]) X G (λ_ _ _ _ _ _=>Hy.bd1 λ_=>rfl) λ_ F=>fL (k:=1) F hb c_pivot_place c_cleared
 have c_product_of_all:Cal l.prog w K mg base 1 "product_of_all" cy:=h26.cal (ps:=["numbers"]) X G (λ_ _ _ _ _ _=>Hy.bd1 λ_=>rfl) λ_ F=>gY (k:=0) F hb
 have c_whole_row:Cal l.prog w K mg base 1 "whole_row" fQ:=h27.cal (ps:=["row","scale"]) X G (λ_ _ _ _ _ _=>Hy.bd2 λ_ _=>rfl) λ_ F=>me (k:=0) F hb
 have c_whole_rows:Cal l.prog w K mg base 2 "whole_rows" eV:=h28.cal (ps:=["table","scales"]) X G (λ_ _ _ _ _ _=>Hy.bd2 λ_ _=>rfl) λ_ F=>k7 (k:=1) F hb c_whole_row
 have c_square_determinant:Cal l.prog w K mg base 4 "square_determinant" bx:=h29.cal (ps:=["table"]) X G (λ_ _ _ _ _ _=>Hy.bd1 λ_=>rfl) λ_ F=>ft (k:=3) F hb (c_look_square.mono (by decide)) c_fraction (c_scale_of.mono (by decide)) (c_whole_determinant.mono (by decide)) (c_product_of_all.mono (by decide)) (c_whole_rows.mono (by decide))
 have c_corner_part:Cal l.prog w K mg base 1 "corner_part" cG:=h30.cal (ps:=["table","i","j"]) X G (λ_ _ _ _ _ _=>Hy.bd3 λ_ _ _=>rfl) λ_ F=>kh (k:=0) F hb
 have c_number_for_corner:Cal l.prog w K mg base 5 "number_for_corner" bU:=h31.cal (ps:=["table","made","i","j"]) X G (λ_ _ _ _ _ _=>Hy.bd4 λ_ _ _ _=>rfl) λ_ F=>fR (k:=4) F hb (c_rest_of.mono (by decide)) (c_quotient_of.mono (by decide)) c_square_determinant (c_corner_part.mono (by decide))
 have c_made_by:Cal l.prog w K mg base 6 "made_by" jf:=h32.cal (ps:=["table"]) X G (λ_ _ _ _ _ _=>Hy.bd1 λ_=>rfl) λ_ F=>qt (k:=5) F hb y_NOUGHT c_look_table c_number_for_corner
 have x_made_by:jw l.prog w K mg base cl 6 "made_by" Am:=h32.zD (ps:=["table"]) X G (λ_ _ _ _ _ _=>Hy.bd1 λ_=>rfl) λ_ F=>qi (k:=5) F hb Z (by decide) y_NOUGHT (x_look_table.mono (by decide)) (c_look_table.mono (by decide))
 have c_corners_in_row:Cal l.prog w K mg base 5 "corners_in_row" cB:=h33.cal (ps:=["table","i"]) X G (λ_ _ _ _ _ _=>Hy.bd2 λ_ _=>rfl) λ_ F=>iG (k:=4) F hb c_square_determinant (c_corner_part.mono (by decide))
 have c_corners:Cal l.prog w K mg base 6 "corners" i4:=h34.cal (ps:=["table"]) X G (λ_ _ _ _ _ _=>Hy.bd1 λ_=>rfl) λ_ F=>qN (k:=5) F hb c_look_table c_corners_in_row
 have x_corners:jw l.prog w K mg base cl 6 "corners" j1:=h34.zD (ps:=["table"]) X G (λ_ _ _ _ _ _=>Hy.bd1 λ_=>rfl) λ_ F=>qh (k:=5) F hb  (x_look_table.mono (by decide))
 obtain ⟨fdw,Fw,mw,kw,bw⟩:=h35.fn (ps:=["_law_e"]) X G (λ_ _ _ _ _ _=>Hy.bd1 λ_=>rfl)
 have Ww:∀ c ∈ [1,12],eQ l.prog w K mg base cl 1 f35 c:=λc hc=>sk (k:=0) Fw hb bw Z hc
 have c_l_refused:Cal l.prog w K mg base 7 "_law_refused" fO:=h36.cal (ps:=["_law_table_here","_law_told"]) X G (λ_ _ _ _ _ _=>Hy.bd2 λ_ _=>rfl) λ_ F=>mn (k:=6) F hb Z (by rintro c (rfl | rfl) <;> decide) mw kw (λc hc=>(Ww c hc).mono (by decide)) (x_corners.mono (by decide)) (x_made_by.mono (by decide))
 have c_l_rows:Cal l.prog w K mg base 2 "_law_rows" iI:=h37.cal (ps:=["_law_table_here"]) X G (λ_ _ _ _ _ _=>Hy.bd1 λ_=>rfl) λ_ F=>tI (k:=1) F hb c_l_divisor
 have c_l_bottoms:Cal l.prog w K mg base 3 "_law_bottoms" fE:=h38.cal (ps:=["_law_table_here"]) X G (λ_ _ _ _ _ _=>Hy.bd1 λ_=>rfl) λ_ F=>nh (k:=2) F hb c_l_rows
 have c_l_whole:Cal l.prog w K mg base 1 "_law_whole" i5:=h39.cal (ps:=["_law_thing"]) X G (λ_ _ _ _ _ _=>Hy.bd1 λ_=>rfl) λ_ F=>p8 (k:=0) F hb
 have c_l_is_number:Cal l.prog w K mg base 2 "_law_is_number" dW:=h40.cal (ps:=["_law_found","_law_top","_law_bottom_here"]) X G (λ_ _ _ _ _ _=>Hy.bd3 λ_ _ _=>rfl) λ_ F=>j9 (k:=1) F hb c_l_whole c_l_divisor
 have c_l_shaped:Cal l.prog w K mg base 3 "_law_shaped" gP:=h41.cal (ps:=["_law_found","_law_table_here"]) X G (λ_ _ _ _ _ _=>Hy.bd2 λ_ _=>rfl) λ_ F=>pg (k:=2) F hb c_l_is_number
 have c_l_det:Cal l.prog w K mg base 1 "_law_det" mR:=h42.cal (ps:=["_law_rows_here"]) X G (λ_ _ _ _ _ _=>Hy.bd1 λ_=>rfl) λ_ F=>uK (k:=0) F hb
 have c_l_corner:Cal l.prog w K mg base 2 "_law_corner" gQ:=h43.cal (ps:=["_law_rows_here","_law_i","_law_j"]) X G (λ_ _ _ _ _ _=>Hy.bd3 λ_ _ _=>rfl) λ_ F=>oG (k:=1) F hb c_l_det
 have c_l_bottom:Cal l.prog w K mg base 1 "_law_bottom" gJ:=h44.cal (ps:=["_law_bottoms_here","_law_i","_law_j"]) X G (λ_ _ _ _ _ _=>Hy.bd3 λ_ _ _=>rfl) λ_ F=>oF (k:=0) F hb
 have c_l_have_corners:Cal l.prog w K mg base 4 "_law_have_corners" cA:=h45.cal (ps:=["_law_found","_law_table_here"]) X G (λ_ _ _ _ _ _=>Hy.bd2 λ_ _=>rfl) λ_ F=>iA (k:=3) F hb c_l_bottoms c_l_shaped (c_l_rows.mono (by decide)) (c_l_corner.mono (by decide)) (c_l_bottom.mono (by decide))
 exact AM (k:=7) (qx l0 c r) hb (c_l_drawn.mono (by decide)) (c_made_by.mono (by decide)) (c_l_cell.mono (by decide)) c_l_refused (c_l_have_corners.mono (by decide)) (c_corners.mono (by decide))
theorem walk {l:PySem.W.OpenLaw} {q:Program} {loose:List Str} {XP:(Str->Option Value)->Heap->Prop} {YP:World->Heap->Prop} {d:DefRec} {K:Params->PySem.W.Frag} (hn:l.most=some 63) (hdf:d.params.defaults=[])
   (hY:∀ (w:World) (h:Heap),YP w h->(K w.params).In h)
   (F:∀ (w:World) (mg:Str->Option Value) (fa:Addr) (h:Heap),(K w.params).In h->h.Ns mainGlobals mg->mg d.name=some (.ref fa) ->
     ∃ fd:FuncData,(∀ (s:Shared) (u:Value),BindsTo s fd ⟨[u],[]⟩ [("_law_script",u)])/\∀ base:Heap,(K w.params).In base->base.Ns mainGlobals mg->aN l.prog w (K w.params) mg base CX0 8 fa fd ["_law_script"] (spD (K w.params) r6)) :
   PySem.W.WalkO q loose XP YP l.row.toRowW d [] (λf vs=>PySem.call f vs):=
 L2.wt (n:=63) (k:=8) (x:="_law_script") (CX:=λ_=>CX0) (sp:=λw=>spD (K w.params) r6) hn (by decide) hdf ⟨rfl,by decide,by decide⟩ hY F
   (λw H a ns hl _ hS=>wJ (λns h=>⟨ns,h,rfl,rfl⟩) H a ns hl hS) λ_ _ _ _ _ z=>z
end K59
open PySem PySem.W PyProof.Rows
namespace PySem.W.Fast
theorem tw213798174284875290:True:=⟨⟩
theorem tw9247706994097349808:True:=⟨⟩
theorem tw12655464764098446698:True:=⟨⟩
theorem tw7554464969974886586:True:=⟨⟩
theorem tw801104484414062642:True:=⟨⟩
theorem tw16255703149852756086:True:=⟨⟩
theorem tw4651492068554834636:True:=⟨⟩
theorem tw2770710857664690375:True:=⟨⟩
theorem tw2771124137482329305:True:=⟨⟩
theorem tw351846540602440608:True:=⟨⟩
theorem tw1224881429217215082:True:=⟨⟩
theorem tw1512968600067599970:True:=⟨⟩
theorem tw14523650304468514138:True:=⟨⟩
theorem tw5843255721655724315:True:=⟨⟩
theorem tw17349879335665054910:True:=⟨⟩
theorem tw13028045092781857892:True:=⟨⟩
theorem tw13496578058050255981:True:=⟨⟩
theorem tw11122652345333687828:True:=⟨⟩
theorem tw2591376217541318545:True:=⟨⟩
theorem tw7449854568554702196:True:=⟨⟩
theorem tw1616381803589683138:True:=⟨⟩
theorem tw3513234618561231517:True:=⟨⟩
theorem tw598665207041412868:True:=⟨⟩
theorem tw17201864603898426407:True:=⟨⟩
theorem tw1346591227837975991:True:=⟨⟩
theorem tw17650792363712931402:True:=⟨⟩
theorem tw8462867639498642339:True:=⟨⟩
theorem tw11236771935537632970:True:=⟨⟩
theorem tw8729711529090811817:True:=⟨⟩
theorem tw13295141055856000568:True:=⟨⟩
theorem tw15550476288419966204:True:=⟨⟩
theorem tw4248437089663198074:True:=⟨⟩
theorem tw3216969052476489189:True:=⟨⟩
theorem tw13390918414953088755:True:=⟨⟩
theorem tw2353291993887005909:True:=⟨⟩
theorem tw16078727152360790248:True:=⟨⟩
theorem tw16918396110237693074:True:=⟨⟩
theorem tw16244919082843651298:True:=⟨⟩
theorem tw9507618125512910198:True:=⟨⟩
theorem tw6164862047578410879:True:=⟨⟩
theorem tw12509796781173824259:True:=⟨⟩
theorem tw7674654744531940426:True:=⟨⟩
theorem tw3769855674993556093:True:=⟨⟩
theorem tw14866234976022075940:True:=⟨⟩
theorem tw2542869015070504405:True:=⟨⟩
theorem tw9532470777355946230:True:=⟨⟩
theorem tw13366645328957149800:True:=⟨⟩
theorem tw17445976974230694920:True:=⟨⟩
theorem tw1599891943738689386:True:=⟨⟩
theorem tw8579503181155517805:True:=⟨⟩
theorem tw16653045727858525040:True:=⟨⟩
theorem tw13995941673683665413:True:=⟨⟩
theorem tw4332102412936802602:True:=⟨⟩
theorem tw17797074073955351085:True:=⟨⟩
theorem tw623764525387964122:True:=⟨⟩
theorem tw11752923017670772196:True:=⟨⟩
theorem tw9537123361702140013:True:=⟨⟩
theorem tw8331123050346281498:True:=⟨⟩
theorem tw14812683986181367044:True:=⟨⟩
theorem tw6693171659336507122:True:=⟨⟩
theorem tw11473556451822206221:True:=⟨⟩
theorem tw6062520593476507249:True:=⟨⟩
theorem tw6416534855283100904:True:=⟨⟩
theorem tw14460733211280604569:True:=⟨⟩
theorem tw6856326355212812635:True:=⟨⟩
theorem tw11418458231684412236:True:=⟨⟩
theorem tw17478295826723370625:True:=⟨⟩
theorem tw17690895871999526017:True:=⟨⟩
theorem tw14727390920865049348:True:=⟨⟩
theorem tw7698045466908906711:True:=⟨⟩
theorem tw2772160259546400638:True:=⟨⟩
theorem tw5640573007359756723:True:=⟨⟩
theorem tw9906903195625786046:True:=⟨⟩
theorem tw11474490785803228960:True:=⟨⟩
theorem tw1297729653745074474:True:=⟨⟩
theorem tw18159551841735083858:True:=⟨⟩
theorem tw16760584500547426185:True:=⟨⟩
theorem tw9858291293148494483:True:=⟨⟩
theorem tw568802101180314224:True:=⟨⟩
theorem tw13143596244563504110:True:=⟨⟩
theorem tw9894328772541129529:True:=⟨⟩
theorem tw9167439459609087921:True:=⟨⟩
theorem tw11182816767990934927:True:=⟨⟩
theorem tw2448754530463928848:True:=⟨⟩
theorem tw7154529890923979656:True:=⟨⟩
theorem tw1397292561239229363:True:=⟨⟩
theorem tw4981456213731824153:True:=⟨⟩
theorem tw8522345385616504685:True:=⟨⟩
end PySem.W.Fast
set_option maxRecDepth 100000 in
set_option maxHeartbeats 0 in
theorem PySem.Challenge.cw_signsmooth_k59_made_by_corners_holds : PySem.Challenge.rw_signsmooth_k59_made_by_corners.Holds := by
 w_on; o_law; k_head; (case hw=>w_witness2)
 k_fill
 refine K59.walk (l:=PySem.Challenge.rw_signsmooth_k59_made_by_corners) rfl rfl (λw h Y=>PySem.W.kIn_of Y) ?F
 case F=>
   intro w mg fa h KX G hmg
   refine' K59.all_mk KX G hmg (.of ?_ ?_ ?_ ?_) (.of ?_ ?_ ?_ ?_) (.of ?_ ?_ ?_ ?_) (.of ?_ ?_ ?_ ?_) (.of ?_ ?_ ?_ ?_) (.of ?_ ?_ ?_ ?_) (.of ?_ ?_ ?_ ?_) (.of ?_ ?_ ?_ ?_) (.of ?_ ?_ ?_ ?_) (.of ?_ ?_ ?_ ?_) (.of ?_ ?_ ?_ ?_) (.of ?_ ?_ ?_ ?_) (.of ?_ ?_ ?_ ?_) (.of ?_ ?_ ?_ ?_) (.of ?_ ?_ ?_ ?_) (.of ?_ ?_ ?_ ?_) (.of ?_ ?_ ?_ ?_) (.of ?_ ?_ ?_ ?_) (.of ?_ ?_ ?_ ?_) (.of ?_ ?_ ?_ ?_) (.of ?_ ?_ ?_ ?_) (.of ?_ ?_ ?_ ?_ ?_) (.of ?_ ?_ ?_ ?_) (.of ?_ ?_ ?_ ?_) (.of ?_ ?_ ?_ ?_) (.of ?_ ?_ ?_ ?_) (.of ?_ ?_ ?_ ?_) (.of ?_ ?_ ?_ ?_) (.of ?_ ?_ ?_ ?_) (.of ?_ ?_ ?_ ?_) (.of ?_ ?_ ?_ ?_) (.of ?_ ?_ ?_ ?_) (.of ?_ ?_ ?_ ?_) (.of ?_ ?_ ?_ ?_) (.of ?_ ?_ ?_ ?_) (.of ?_ ?_ ?_ ?_) (.of ?_ ?_ ?_ ?_) (.of ?_ ?_ ?_ ?_) (.of ?_ ?_ ?_ ?_) (.of ?_ ?_ ?_ ?_) (.of ?_ ?_ ?_ ?_) (.of ?_ ?_ ?_ ?_) (.of ?_ ?_ ?_ ?_) (.of ?_ ?_ ?_ ?_) (.of ?_ ?_ ?_ ?_) (.of ?_ ?_ ?_ ?_) (.of ?_ ?_ ?_ ?_) ⟨?_,?_,?_,?_,?_,?_,?_,?_,?_,?_,?_,?_,?_,?_,?_,?_,?_,?_,trivial⟩ ?_ ?_ (.of ?_ ?_ ?_ ?_ ?_) ?_ ?_ ?_ (.cons ?_ (.cons ?_ (.cons ?_ (.cons ?_ (.cons ?_ (.cons ?_ (.cons ?_ (.cons ?_ (.cons ?_ (.cons ?_ (.cons ?_ (.cons ?_ (.cons ?_ (.cons ?_ (.cons ?_ (.cons ?_ (.cons ?_ (.cons ?_ (.cons ?_ .nil))))))))))))))))))) (.cons ?_ (.cons ?_ (.cons ?_ (.cons ?_ (.cons ?_ (.cons ?_ (.cons ?_ (.cons ?_ (.cons ?_ (.cons ?_ (.cons ?_ (.cons ?_ (.cons ?_ (.cons ?_ (.cons ?_ (.cons ?_ (.cons ?_ (.cons ?_ (.cons ?_ .nil))))))))))))))))))) (.of ?_ ?_ ?_ ?_ ?_ ?_ ?_ ?_ ?_ ?_ ?_ ?_) (.cons ?_ ?_ .nil) (.cons ?_ ?_ (.cons ?_ ?_ (.cons ?_ ?_ (.cons ?_ ?_ (.cons ?_ ?_ (.cons ?_ ?_ (.cons ?_ ?_ (.cons ?_ ?_ (.cons ?_ ?_ (.cons ?_ ?_ (.cons ?_ ?_ (.cons ?_ ?_ (.cons ?_ ?_ (.cons ?_ ?_ (.cons ?_ ?_ (.cons ?_ ?_ (.cons ?_ ?_ .nil))))))))))))))))) (.of ?_ ?_ ?_ ?_ ?_ ?_ ?_ ?_ ?_ ?_ ?_ ?_) (.cons ?_ ?_ (.cons ?_ ?_ (.cons ?_ ?_ (.cons ?_ ?_ (.cons ?_ ?_ (.cons ?_ ?_ (.cons ?_ ?_ (.cons ?_ ?_ (.cons ?_ ?_ (.cons ?_ ?_ (.cons ?_ ?_ (.cons ?_ ?_ .nil)))))))))))) (.cons ?_ ?_ (.cons ?_ ?_ (.cons ?_ ?_ (.cons ?_ ?_ (.cons ?_ ?_ (.cons ?_ ?_ .nil)))))) ?_ ?_
   all_goals try k_is
   all_goals first | rfl | decide
#print axioms PySem.Challenge.cw_signsmooth_k59_made_by_corners_holds
