import PyProof.Rows.All
import Wide.All
import OpenK.AllK
import Wide.FinOn
import Lean
import PyProof.EqAt
import PyProof.EqKinds
import PyProof.TupleCall
import PyProof.NeKinds
import PyProof.EnumMake
import PyProof.ConsumeWalk
import KE.IntBitsLaws
import PyProof.ZipIter
import PyProof.Rows.SumAny
import PyProof.ListRange
import PyProof.Rows.SortWalk
import PyProof.Rows.Range3
import PyProof.Rows.SortRunsK
import PySem.Challenge.RW_ringbook_k13_word_rings
set_option Elab.async false
set_option linter.all false
set_option maxRecDepth 100000
namespace L2
open PySem PySem.Spec PyProof.Rows
abbrev Key:=Sum Int Str
def keyIs:Key→Value→Bool
 | .inl k,v=>Value.isInt k v
 | .inr x,v=>Value.isStrOf x v
def keyH (w:World):Key→Int
 | .inl k=>hashInt k
 | .inr x=>hashStr w x
theorem keyIs_shape:∀ {k:Key} {v:Value},keyIs k v=true→(∃ i t,k=Sum.inl i∧v=Value.int i t)∨(∃ x t,k=Sum.inr x∧v=Value.str x t)
 | .inl i,v,h=>by
  obtain ⟨t,e⟩:=Value.isInt_shape (k:=i) (v:=v) h
  exact .inl ⟨i,t,rfl,e⟩
 | .inr x,v,h=>by
  obtain ⟨t,e⟩:=Value.isStrOf_shape (x:=x) (v:=v) h
  exact .inr ⟨x,t,rfl,e⟩
theorem key_ll (a b:Int):decide ((Sum.inl a:Key)=Sum.inl b)=(a == b):=by
 by_cases e:a=b
 · subst e; simp
 · have h:¬ (Sum.inl a:Key)=Sum.inl b:=fun q=>e (Sum.inl.inj q)
   rw [decide_eq_false h]
   exact (beq_eq_false_iff_ne.mpr e).symm
theorem key_rr (a b:Str):decide ((Sum.inr a:Key)=Sum.inr b)=decide (a=b):=by
 by_cases e:a=b
 · subst e; simp
 · have h:¬ (Sum.inr a:Key)=Sum.inr b:=fun q=>e (Sum.inr.inj q)
   rw [decide_eq_false h,decide_eq_false e]
theorem key_lr (a:Int) (b:Str):decide ((Sum.inl a:Key)=Sum.inr b)=false:=decide_eq_false (fun q=>nomatch q)
theorem key_rl (a:Str) (b:Int):decide ((Sum.inr a:Key)=Sum.inl b)=false:=decide_eq_false (fun q=>nomatch q)
def mixKind (prog:Program) (w:World):PySem.KeyKind prog w Key where
 is:=keyIs
 hash:=keyH w
 inj:=fun v a b ha hb=>by
  rcases keyIs_shape ha with ⟨i,t,rfl,rfl⟩ | ⟨x,t,rfl,rfl⟩
  · rcases keyIs_shape hb with ⟨j,u,rfl,e⟩ | ⟨y,u,rfl,e⟩
    · injection e with e1 _; rw [e1]
    · exact nomatch e
  · rcases keyIs_shape hb with ⟨j,u,rfl,e⟩ | ⟨y,u,rfl,e⟩
    · exact nomatch e
    · injection e with e1 _; rw [e1]
 byValue:=fun k v h=>by
  rcases keyIs_shape h with ⟨i,t,rfl,rfl⟩ | ⟨x,t,rfl,rfl⟩ <;> rfl
 pyHash:=fun hv h=>by
  rcases keyIs_shape hv with ⟨i,t,rfl,rfl⟩ | ⟨x,t,rfl,rfl⟩
  · exact wpAny_pyHash_int h
  · exact wpAny_pyHash_str h
 eqBool:=fun hu hv h=>by
  rcases keyIs_shape hu with ⟨i,t,rfl,rfl⟩ | ⟨x,t,rfl,rfl⟩
  · rcases keyIs_shape hv with ⟨j,u,rfl,rfl⟩ | ⟨y,u,rfl,rfl⟩
    · rw [key_ll] at h; exact wpAny_eqBool_int h
    · rw [key_lr] at h; exact SeqAt.EqAt.int_str i t y u _ _ _ _ h
  · rcases keyIs_shape hv with ⟨j,u,rfl,rfl⟩ | ⟨y,u,rfl,rfl⟩
    · rw [key_rl] at h; exact SeqAt.EqAt.str_int x t j u _ _ _ _ h
    · rw [key_rr] at h; exact wpAny_eqBool_str h
 «strs» := fun k x t v h=>by
  rcases keyIs_shape h with ⟨i,u,rfl,e⟩ | ⟨y,u,rfl,e⟩
  · exact nomatch e
  · injection e with e1 _
    subst e1
    cases v <;> rfl
end L2
namespace L2
open PySem PySem.Spec PyProof.Rows
inductive V where
 | non | bl (b:Bool) | int (i:Int) | str (x:Str) | byt (b:Array UInt8) | flt (b:UInt64) | ref (a:Addr) | ty (n:String)
 deriving DecidableEq
def RelV:V→Value→Prop
 | .non,u=>u=Value.none
 | .bl b,u=>u=Value.bool b
 | .int i,u=>∃ t,u=Value.int i t
 | .str x,u=>∃ t,u=Value.str x t
 | .byt b,u=>∃ t,u=Value.bytes b t
 | .flt b,u=>∃ t,u=Value.float b t
 | .ref a,u=>u=Value.ref a
 | .ty n,u=>u=Value.type n
abbrev Vals:List V→List Value→Prop:=Paired RelV
theorem Vals.length {xs:List V} {us:List Value} (r:Vals xs us):xs.length=us.length:=Paired.length r
theorem Vals.get:∀ {xs:List V} {us:List Value} {i:Nat} {x:V},Vals xs us→xs[i]?=some x→∃ u,us[i]?=some u∧RelV x u
 | _,_,_,_,.nil,e=>by simp at e
 | _,_,0,_,.cons r _,e=>by simp at e; subst e; exact ⟨_,rfl,r⟩
 | _,_,i+1,x,.cons _ t,e=>by
  obtain ⟨u,h1,h2⟩:=Vals.get (i:=i) (x:=x) t (by simpa using e)
  exact ⟨u,by simpa using h1,h2⟩
theorem Vals.set {x:V} {u:Value} (r:RelV x u):∀ {xs:List V} {us:List Value} (i:Nat),Vals xs us→Vals (xs.set i x) (us.set i u)
 | _,_,_,.nil=>.nil
 | _,_,0,.cons _ t=>.cons r t
 | _,_,i+1,.cons q t=>.cons q (Vals.set r i t)
theorem Vals.append:∀ {xs ys:List V} {us ws:List Value},Vals xs us→Vals ys ws→Vals (xs++ys) (us++ws)
 | _,_,_,_,.nil,s=>s
 | _,_,_,_,.cons r t,s=>.cons r (Vals.append t s)
theorem Vals.take:∀ {xs:List V} {us:List Value} (n:Nat),Vals xs us→Vals (xs.take n) (us.take n)
 | _,_,0,_=>.nil
 | _,_,_+1,.nil=>.nil
 | _,_,n+1,.cons r t=>.cons r (Vals.take n t)
theorem Vals.drop:∀ {xs:List V} {us:List Value} (n:Nat),Vals xs us→Vals (xs.drop n) (us.drop n)
 | _,_,0,r=>r
 | _,_,_+1,.nil=>.nil
 | _,_,n+1,.cons _ t=>Vals.drop n t
def RelO:Option V→Option Value→Prop
 | some v,some u=>RelV v u
 | none,none=>True
 | _,_=>False
def KV {κ:Type}:List (κ × V)→List (κ × Value)→Prop:=Paired fun (p:κ × V) (q:κ × Value)=>p.1=q.1∧RelV p.2 q.2
def kV:Key→V
 | .inl i=>.int i
 | .inr x=>.str x
inductive HO where
 | lst (xs:List V)
 | tup (xs:List V)
 | dK (kvs:List (Key × V)) | dT (kvs:List (List Key × V))
 | set (S:Int→Bool) (n:Nat)
 | ins (C dx:Addr) (fs:List (Str × V))
 | own (x:Addr)
 | xd (fs:List (Str × V))
 | met (f x:Addr)
 | rng (lo hi:Int)
 | frz (o:Obj) (u:HO)
 | tbl (ps:Array Value)
 | ext (φ:Heap→Prop)
abbrev Hp:=Addr→Option HO
def upd (H:Hp) (a:Addr) (o:HO):Hp:=fun b=>if b=a then some o else H b
theorem upd_same {H:Hp} {a:Addr} {o:HO}:upd H a o a=some o:=by unfold upd; rw [if_pos rfl]
theorem upd_ne {H:Hp} {a b:Addr} {o:HO} (h:b ≠ a):upd H a o b=H b:=by unfold upd; rw [if_neg h]
theorem ne_of {H:Hp} {a b:Addr} {o u:HO} (h:H a=some o) (h':H b=some u) (d:o ≠ u):a ≠ b:=by
 intro e; subst e; rw [h] at h'; exact d (Option.some.inj h')
theorem ne_of_none {H:Hp} {a b:Addr} {o:HO} (h:H a=some o) (h':H b=none):a ≠ b:=by
 intro e; subst e; rw [h] at h'; cases h'
section
variable (P:Program) (w:World)
def ObjOk (H:Hp) (h:Heap) (a:Addr):HO→Prop
 | .lst xs=>xs.length≤sizeLine∧∃ (its:List Value) (n:Nat),Vals xs its∧h.get? a=some { cls:=.type "list",data:=.seq its.toArray n }
 | .tup xs=>xs.length≤sizeLine∧∃ its:List Value,Vals xs its∧IsTup h a its.toArray
 | .dK kvs=>kvs.length≤sizeLine∧(a == sysModules)=false∧∃ vs,KV kvs vs∧h.DictOf (mixKind P w) a vs
 | .dT kvs=>kvs.length≤sizeLine∧(a == sysModules)=false∧∃ xs:List (List Key × Addr × Value),
  Paired (fun (p:List Key × V) (q:List Key × Addr × Value)=>p.1=q.1∧H q.2.1=some (.tup (p.1.map kV))∧RelV p.2 q.2.2) kvs xs ∧
  ∃ o es ep,h.get? a=some o∧o.ExactDict∧o.data=.dict es ep∧es.toList=xs.map (entryOfKey (tupleKind (mixKind P w)))∧(xs.map (·.1)).Nodup
 | .set S n=>h.SetOf (intKind P w) a S n
 | .ins C dx fs=>H dx=some (.own a)∧fs.length≤1000∧dx ≠ a∧h.get? a=some (PySem.W.instObj C dx) ∧
  ∃ mA,h.Ns1 dx mA∧(∀ f,RelO (fs.lookup f) (mA f))∧PySem.Within mA (fs.map (·.1))
 | .own _=>∃ o,h.get? a=some o
 | .xd fs=>∃ mA,h.Ns1 a mA∧∀ f,RelO (fs.lookup f) (mA f)
 | .rng lo hi=>∃ t u v,h.get? a=some { cls:=.type "range",data:=.fields #[.int lo t,.int hi u,.int 1 v] }
 | .frz o u=>h.get? a=some o∧ObjOk H h a u
 | .tbl ps=>h.get? a=some { cls:=.none,data:=.fields ps }
 | .met f x=>h.get? a=some (PySem.W.methodObj (.ref f) (.ref x))
 | .ext φ=>φ h∧(∃ o,h.get? a=some o)∧∀ h1 h2:Heap,φ h1→(∀ o,h1.get? a=some o→h2.get? a=some o)→φ h2
def HOk (H:Hp) (h:Heap):Prop:=∀ a o,H a=some o→ObjOk P w H h a o
end
section
variable {P:Program} {w:World} {H H':Hp} {h h':Heap} {a:Addr} {o:HO}
theorem ObjOk.lt (x:ObjOk P w H h a o):a < h.objs.size:=by
 cases o with
 | lst xs=>obtain ⟨_,_,_,_,e⟩:=x; exact Heap.lt_size e
 | tup xs=>obtain ⟨_,_,_,p⟩:=x; exact p.lt
 | dK kvs=>obtain ⟨_,_,_,_,o,_,_,e,_⟩:=x; exact Heap.lt_size e
 | dT kvs=>obtain ⟨_,_,_,_,o,_,_,e,_⟩:=x; exact Heap.lt_size e
 | set S n=>obtain ⟨o,_,_,_,e,_⟩:=x; exact Heap.lt_size e
 | ins C dx fs=>obtain ⟨_,_,_,e,_⟩:=x; exact Heap.lt_size e
 | own y=>obtain ⟨_,e⟩:=x; exact Heap.lt_size e
 | xd fs=>obtain ⟨_,⟨_,_,_,e,_⟩,_⟩:=x; exact Heap.lt_size e
 | rng lo hi=>obtain ⟨_,_,_,e⟩:=x; exact Heap.lt_size e
 | frz ob u=>obtain ⟨e,_⟩:=x; exact Heap.lt_size e
 | tbl ps=>exact Heap.lt_size (show h.get? a=some _ from x)
 | met f y=>exact Heap.lt_size (show h.get? a=some _ from x)
 | ext φ=>obtain ⟨_,⟨_,e⟩,_⟩:=x; exact Heap.lt_size e
theorem Paired.mapP {α β:Type} {F G:α→β→Prop}:∀ {l₁:List α} {l₂:List β},Paired F l₁ l₂→(∀ a b,F a b→G a b)→Paired G l₁ l₂
 | _,_,.nil,_=>.nil
 | _,_,.cons r t,f=>.cons (f _ _ r) (Paired.mapP t f)
theorem ObjOk.stay (x:ObjOk P w H h a o) (k:∀ b u,(b=a∨H b=some (.own a))→h.get? b=some u→h'.get? b=some u)
 (ho:∀ b,H b=some (.own a)→H' b=some (.own a)) (ht:∀ b xs,H b=some (.tup xs)→H' b=some (.tup xs)):ObjOk P w H' h' a o:=by
 induction o with
 | lst xs=>obtain ⟨z,its,n,r,e⟩:=x; exact ⟨z,its,n,r,k _ _ (.inl rfl) e⟩
 | tup xs=>obtain ⟨z,its,r,ob,e,c⟩:=x; exact ⟨z,its,r,ob,k _ _ (.inl rfl) e,c⟩
 | dK kvs=>obtain ⟨z,y,vs,r,ob,es,ep,e,c⟩:=x; exact ⟨z,y,vs,r,ob,es,ep,k _ _ (.inl rfl) e,c⟩
 | dT kvs =>
  obtain ⟨z,y,xs,r,ob,es,ep,e,c⟩:=x
  exact ⟨z,y,xs,Paired.mapP r fun p q z=>⟨z.1,ht _ _ z.2.1,z.2.2⟩,ob,es,ep,k _ _ (.inl rfl) e,c⟩
 | set S n=>obtain ⟨ob,es,ep,t,e,c⟩:=x; exact ⟨ob,es,ep,t,k _ _ (.inl rfl) e,c⟩
 | ins C dx fs =>
  obtain ⟨d,z,ne,e,mA,⟨od,es,ep,e2,c⟩,r⟩:=x
  exact ⟨ho _ d,z,ne,k _ _ (.inl rfl) e,mA,⟨od,es,ep,k _ _ (.inr d) e2,c⟩,r⟩
 | own y=>obtain ⟨ob,e⟩:=x; exact ⟨ob,k _ _ (.inl rfl) e⟩
 | xd fs=>obtain ⟨mA,⟨od,es,ep,e,c⟩,r⟩:=x; exact ⟨mA,⟨od,es,ep,k _ _ (.inl rfl) e,c⟩,r⟩
 | rng lo hi=>obtain ⟨t,u,v,e⟩:=x; exact ⟨t,u,v,k _ _ (.inl rfl) e⟩
 | frz ob u ih=>obtain ⟨e,q⟩:=x; exact ⟨k _ _ (.inl rfl) e,ih q⟩
 | tbl ps =>
  have e:h.get? a=some { cls:=.none,data:=.fields ps }:=x
  show h'.get? a=some { cls:=.none,data:=.fields ps }
  exact k a _ (.inl rfl) e
 | met f y =>
  have e:h.get? a=some (PySem.W.methodObj (.ref f) (.ref y)):=x
  show h'.get? a=some (PySem.W.methodObj (.ref f) (.ref y))
  exact k a _ (.inl rfl) e
 | ext φ=>obtain ⟨p,⟨o,e⟩,st⟩:=x; exact ⟨st _ _ p fun o q=>k _ _ (.inl rfl) q,⟨o,k _ _ (.inl rfl) e⟩,st⟩
theorem HOk.lt (x:HOk P w H h) (e:H a=some o):a < h.objs.size:=(x a o e).lt
theorem HOk.fresh (x:HOk P w H h) (e:h.objs.size≤a):H a=none:=by
 cases q:H a with
 | none=>rfl
 | some u=>exact absurd (Nat.lt_of_lt_of_le (x.lt q) e) (Nat.lt_irrefl _)
theorem HOk.kept (x:HOk P w H h) (k:∀ b u,h.get? b=some u→h'.get? b=some u):HOk P w H h':=fun a o e =>
 (x a o e).stay (fun b u _ q=>k b u q) (fun _ q=>q) fun _ _ q=>q
theorem HOk.laid (x:HOk P w H h) (k:∀ b u,h.get? b=some u→h'.get? b=some u) (hp:h.objs.size≤a) (new:ObjOk P w (upd H a o) h' a o):HOk P w (upd H a o) h':=fun b u e=>by
 have hn:=x.fresh hp
 by_cases hb:b=a
 · subst hb; rw [upd_same] at e; cases e; exact new
 · rw [upd_ne hb] at e
   exact (x b u e).stay (fun c v _ q=>k c v q) (fun c q=>by rw [upd_ne (ne_of_none q hn)]; exact q) fun c xs q=>by rw [upd_ne (ne_of_none q hn)]; exact q
end
def Rd (H:Hp) (a:Addr) (u:HO):Prop:=H a=some u∨∃ o,H a=some (.frz o u)
theorem Rd.of {H:Hp} {a:Addr} {u:HO} (h:H a=some u):Rd H a u:=.inl h
theorem Rd.ok {P:Program} {w:World} {H:Hp} {h:Heap} {a:Addr} {u:HO} (r:Rd H a u) (x:HOk P w H h):ObjOk P w H h a u:=by
 rcases r with r | ⟨o,r⟩
 · exact x a u r
 · obtain ⟨_,q⟩:=x a _ r
   exact q
def Mut:Option HO→Prop
 | some (.lst _)=>True
 | some (.dK _)=>True
 | some (.dT _)=>True
 | some (.set _ _)=>True
 | some (.ins _ _ _)=>True
 | some (.ext _)=>True
 | _=>False
section
variable {P:Program} {w:World} {H:Hp} {h h':Heap} {x e:Addr} {o':HO}
theorem HOk.write (ok:HOk P w H h) (mu:Mut (H x)) (he:e=x∨H e=some (.own x)) (k:∀ b u,b ≠ e→h.get? b=some u→h'.get? b=some u) (heo:∃ u,h'.get? e=some u)
 (new:ObjOk P w (upd H x o') h' x o'):HOk P w (upd H x o') h':=fun b u q=>by
 have nown:∀ c y,H c=some (.own y)→c ≠ x:=fun c y r z=>by subst z; rw [r] at mu; exact mu
 have ntup:∀ c xs,H c=some (.tup xs)→c ≠ x:=fun c xs r z=>by subst z; rw [r] at mu; exact mu
 by_cases hb:b=x
 · subst hb; rw [upd_same] at q; cases q; exact new
 · rw [upd_ne hb] at q
   by_cases hbe:b=e
   · have q':H b=some (.own x):=by
      rcases he with z | z
      · exact absurd (hbe.trans z) hb
      · rw [hbe]; exact z
     rw [q] at q'; cases q'
     obtain ⟨v,hv⟩:=heo
     exact ⟨v,by rw [hbe]; exact hv⟩
   · refine (ok b u q).stay (fun c v hc r=>k c v ?_ r) (fun c r=>by rw [upd_ne (nown c b r)]; exact r) fun c xs r=>by rw [upd_ne (ntup c xs r)]; exact r
     rcases hc with rfl | hc
     · exact hbe
     · rintro rfl
       rcases he with z | z
       · exact nown c b hc z
       · rw [hc] at z; cases z; exact hb rfl
end
structure Un (fs ex:List Addr) (H H':Hp) (h h':Heap):Prop where
 keep:∀ b o,h.get? b=some o→H b=none→b ∉ fs→b ∉ ex→h'.get? b=some o
 slot:∀ b o,h.get? b=some o→H b=none→b∈fs→b ∉ ex→∃ sl,h'.get? b=some { o with slots:=sl }
 free:∀ b o,h.get? b=some o→H b=none→b ∉ ex→H' b=none
 there:∀ b o,h.get? b=some o→b ∉ ex→∃ o',h'.get? b=some o'
 tups:∀ b xs,H b=some (.tup xs)→H' b=some (.tup xs)
 frzs:∀ b o u,H b=some (.frz o u)→H' b=some (.frz o u)
 tbls:∀ b ps,H b=some (.tbl ps)→∃ more,H' b=some (.tbl (ps++more))
section
variable {fs fs' ex ex':List Addr} {H H1 H2:Hp} {h h1 h2 h':Heap} {a x e:Addr} {o:HO}
theorem Un.any (u:Un fs ex H H1 h h1) {b:Addr} {ob:Obj} (q:h.get? b=some ob) (n:H b=none) (hx:b ∉ ex):∃ sl,h1.get? b=some { ob with slots:=sl }:=by
 by_cases hb:b∈fs
 · exact u.slot b ob q n hb hx
 · exact ⟨ob.slots,u.keep b ob q n hb hx⟩
theorem Un.kept (k:∀ b u,h.get? b=some u→h'.get? b=some u):Un fs ex H H h h' :=
 ⟨fun b ob q _ _ _=>k b ob q,fun b ob q _ _ _=>⟨ob.slots,k b ob q⟩,fun _ _ _ n _=>n,fun b ob q _=>⟨ob,k b ob q⟩,fun _ _ q=>q,fun _ _ _ q=>q,fun _ ps q=>⟨#[],by rw [q]; simp⟩⟩
theorem Un.refl:Un fs ex H H h h:=Un.kept fun _ _ q=>q
theorem Un.laid (k:∀ b u,h.get? b=some u→h'.get? b=some u) (hp:h.objs.size≤a) (hn:H a=none):Un fs ex H (upd H a o) h h' where
 keep:=fun b u q _ _ _=>k b u q
 slot:=fun b u q _ _ _=>⟨u.slots,k b u q⟩
 free:=fun b u q n _=>by rw [upd_ne (Nat.ne_of_lt (Nat.lt_of_lt_of_le (Heap.lt_size q) hp))]; exact n
 there:=fun b u q _=>⟨u,k b u q⟩
 tups:=fun b xs q=>by rw [upd_ne (ne_of_none q hn)]; exact q
 frzs:=fun b u xs q=>by rw [upd_ne (ne_of_none q hn)]; exact q
 tbls:=fun b ps q=>⟨#[],by rw [upd_ne (ne_of_none q hn),q]; simp⟩
theorem Un.write (mu:Mut (H x)) (he:e=x∨H e=some (.own x)) (k:∀ b u,b ≠ e→h.get? b=some u→h'.get? b=some u) (heo:∃ u,h'.get? e=some u):Un fs ex H (upd H x o) h h':=by
 have hx:∀ b,H b=none→b ≠ x:=fun b n z=>by subst z; rw [n] at mu; exact mu
 have hb:∀ b,H b=none→b ≠ e:=fun b n z=>by
  subst z
  rcases he with r | r
  · exact hx b n r
  · rw [n] at r; cases r
 have hm:∀ b u,H b=some u→¬ Mut (some u)→b ≠ x:=fun b u q nm z=>by subst z; rw [q] at mu; exact nm mu
 refine ⟨fun b u q n _ _=>k b u (hb b n) q,fun b u q n _ _=>⟨u.slots,k b u (hb b n) q⟩,fun b u q n _=>by rw [upd_ne (hx b n)]; exact n,fun b u q _=>?_,
  fun b xs q=>by rw [upd_ne (hm b _ q fun z=>z)]; exact q,fun b u xs q=>by rw [upd_ne (hm b _ q fun z=>z)]; exact q,fun b ps q=>⟨#[],by rw [upd_ne (hm b _ q fun z=>z),q]; simp⟩⟩
 by_cases hbe:b=e
 · subst hbe; exact heo
 · exact ⟨u,k b u hbe q⟩
end
def trk (h:Heap) (H:Hp):List Addr:=(List.range h.objs.size).filter fun a=>(H a).isSome
def hidT (h:Heap) (H:Hp):Heap:=PySem.W.hideAll h (trk h H)
theorem hidT_size (h:Heap) (H:Hp):(hidT h H).objs.size=h.objs.size:=PySem.W.hideAll_size _ _
theorem hidT_get {h:Heap} {H:Hp} {b:Addr} {o:Obj} (e:h.get? b=some o) (n:H b=none):(hidT h H).get? b=some o :=
 PySem.W.hideAll_get _ e fun hm=>by
  have q:(H b).isSome=true:=(List.mem_filter.mp hm).2
  rw [n] at q; simp at q
theorem of_hidT {h:Heap} {H:Hp} {b:Addr} {o:Obj} (e:(hidT h H).get? b=some o):h.get? b=some o∧H b=none:=by
 have e':h.get? b=some o:=PySem.W.of_hideAll (trk h H) e
 refine ⟨e',?_⟩
 cases q:H b with
 | none=>rfl
 | some x =>
  have hm:b∈trk h H:=List.mem_filter.mpr ⟨List.mem_range.mpr (Heap.lt_size e'),by simp [q]⟩
  have z:(hidT h H).get? b=none:=PySem.W.hideAll_none (trk h H) hm
  rw [z] at e; cases e
def allNews (g h:Heap) (L:Addr):List (Addr × Obj):=(List.range h.objs.size).filterMap fun a=>if a=L∨(g.get? a).isSome=true then none else (h.get? a).map fun o=>(a,o)
def rest (g h:Heap) (L d:Addr):List (Addr × Obj):=(allNews g h L).filter fun p=>decide (p.1 ≠ d)
end L2
namespace L2
open PySem PySem.Spec PyProof.Rows
structure Mod (K:PySem.W.Frag) (mg:Str→Option Value) (base:Heap):Prop where
 kin:K.In base
 glob:base.Ns mainGlobals mg
 blt:∃ mb,base.Ns builtinsNs mb∧∀ x:Str,x ≠ "__name__"→mb x=bootBuiltins x
 nolimit:base.NoLimit
structure Cx where
 prog:Program
 w:World
 K:PySem.W.Frag
 mg:Str→Option Value
 base:Heap
 A:Around
 N:List Str
 s₀:Shared
 H₀:Hp
 env:Env
 outer:List Env
 stack:List Env
 ex:List Addr
 fn:Str→Bool
 calm:Bool
 pn:List (Addr × Obj)
 xe:Value→Shared→Prop
def frs (l:List Env):List Addr:=l.filterMap (·.frame)
abbrev Cx.fs (X:Cx):List Addr:=frs X.outer
def Vis (sc:Scope) (x:Str):Prop:=sc.names.lookup x=some .local∨sc.names.lookup x=some .cell∨sc.names.lookup x=some .free
def Loc (sc:Scope) (x:Str):Prop:=sc.names.lookup x=some .local∨sc.names.lookup x=some .cell
def Look (env:Env) (h:Heap) (m:Str→Option Value) (x:Str) (u:Value):Prop :=
 (env.kindOf x=some .local∧m x=some u)∨((env.kindOf x=some .cell∨env.kindOf x=some .free)∧∃ c,env.cells.lookup x=some c∧h.IsCell c (some u))
structure Cx.Ok (X:Cx):Prop where
 mod:Mod X.K X.mg X.base
 kind:X.env.scope.kind=.function
 glob:X.env.globals=mainGlobals
 blt:X.env.builtins=builtinsNs
 above:X.s₀.heap.objs.size≤X.env.locals
 inj:∀ x y c,X.env.cells.lookup x=some c→X.env.cells.lookup y=some c→x=y
 has:∀ x,(X.env.kindOf x=some .cell∨X.env.kindOf x=some .free)→∃ c,X.env.cells.lookup x=some c
 cab:∀ x c,X.fn x=true→X.env.cells.lookup x=some c→X.s₀.heap.objs.size≤c
 hd:X.calm=true→X.A.handled=none
 frames:X.A.frames=some X.stack
 stk:X.stack=X.outer∨(X.stack=X.env :: X.outer∧X.env.frame=some X.env.locals)
 exf:∀ b∈X.ex,b ≠ X.env.locals∧∀ x c,X.env.cells.lookup x=some c→c ≠ b
 bs:∀ b o,X.base.get? b=some o→X.s₀.heap.get? b=some o∧X.H₀ b=none
 bsz:X.base.objs.size≤X.s₀.heap.objs.size
 noex:∀ b o,X.base.get? b=some o→b ∉ X.ex
 exfs:∀ b∈X.ex,b ∉ X.fs
 funs:X.s₀.heap.FunFrames X.base X.outer
 frf:∀ b∈X.fs,X.H₀ b=none
structure Inv (X:Cx) (pins:List (Addr × Obj)) (σ:List (Option V)) (H:Hp) (s:Shared):Prop where
 ok:X.Ok
 os:s.os=X.s₀.os
 bare:AllBare s.gens
 base:Un X.fs X.ex X.H₀ H X.s₀.heap s.heap
 loc:∃ m,s.heap.Ns X.env.locals m∧∀ (i:Nat) (x:Str) (v:V),X.N[i]?=some x→σ[i]?=some (some v)→Vis X.env.scope x→∃ u,RelV v u∧Look X.env s.heap m x u
 cell:∀ x c,X.env.cells.lookup x=some c→∃ v,s.heap.IsCell c v
 free:H X.env.locals=none
 freeC:∀ x c,X.env.cells.lookup x=some c→H c=none
 pin:∀ p∈X.pn++pins,s.heap.get? p.1=some p.2∧H p.1=none∧p.1 ≠ X.env.locals∧p.1 ∉ X.fs∧∀ v,p.2.data ≠ .cell v
 hok:HOk X.prog X.w H s.heap
 len:σ.length=X.N.length
section
variable {X:Cx} {pins:List (Addr × Obj)} {σ:List (Option V)} {H H':Hp} {s:Shared} {h':Heap}
theorem Cx.Ok.nofr (ok:X.Ok) {b:Addr} {o:Obj} (e:X.base.get? b=some o):b ∉ X.fs:=fun hb=>by
 have:=(ok.funs.mem hb).1
 rw [e] at this; cases this
theorem Inv.bs (I:Inv X pins σ H s):∀ b o,X.base.get? b=some o→s.heap.get? b=some o∧H b=none:=fun b o e =>
 ⟨I.base.keep b o (I.ok.bs b o e).1 (I.ok.bs b o e).2 (I.ok.nofr e) (I.ok.noex b o e),I.base.free b o (I.ok.bs b o e).1 (I.ok.bs b o e).2 (I.ok.noex b o e)⟩
theorem Inv.bk (I:Inv X pins σ H s):∀ b o,X.base.get? b=some o→s.heap.get? b=some o:=fun b o e=>(I.bs b o e).1
theorem Inv.mod (I:Inv X pins σ H s):Mod X.K X.mg X.base:=I.ok.mod
theorem Inv.kIn (I:Inv X pins σ H s):X.K.In s.heap:=I.ok.mod.kin.keeps I.bk
theorem Inv.lt (I:Inv X pins σ H s):X.env.locals < s.heap.objs.size:=let ⟨_,hn,_⟩:=I.loc; hn.lt
theorem Inv.sz (I:Inv X pins σ H s):X.s₀.heap.objs.size≤s.heap.objs.size:=Nat.le_trans I.ok.above (Nat.le_of_lt I.lt)
theorem Inv.nofs (I:Inv X pins σ H s) {a:Addr} (h:s.heap.objs.size≤a):a ∉ X.fs:=fun hb=>by
 obtain ⟨_,o,ho,_⟩:=I.ok.funs.mem hb
 exact absurd (Nat.lt_of_lt_of_le (Heap.lt_size ho) (Nat.le_trans I.sz h)) (Nat.lt_irrefl _)
theorem Inv.cne (I:Inv X pins σ H s):∀ x c,X.env.cells.lookup x=some c→c ≠ X.env.locals:=fun x c e z=>by
 obtain ⟨v,o,ho,hd⟩:=I.cell x c e
 obtain ⟨m,⟨o',es,ep,ho',hd',_⟩,_⟩:=I.loc
 rw [z,ho'] at ho; cases ho; rw [hd'] at hd; cases hd
theorem Inv.funs (I:Inv X pins σ H s):s.heap.FunFrames X.base X.outer:=by
 have all:∀ (l:List Env),(∀ b∈frs l,b∈X.fs)→X.s₀.heap.FunFrames X.base l→s.heap.FunFrames X.base l:=by
  intro l
  induction l with
  | nil=>intro _ _; trivial
  | cons env r ih =>
   intro hs hl
   obtain ⟨hk,⟨L,o,hf,hn,ho,hd⟩,hr⟩:=hl
   have hL:L∈X.fs:=hs L (by unfold frs; rw [List.filterMap_cons,hf]; exact List.mem_cons_self)
   obtain ⟨sl,e⟩:=I.base.slot L o ho (I.ok.frf L hL) hL fun z=>I.ok.exfs L z hL
   exact ⟨hk,⟨L,_,hf,hn,e,hd⟩,ih (fun b hb=>hs b (by unfold frs; rw [List.filterMap_cons,hf]; exact List.mem_cons_of_mem _ hb)) hr⟩
 exact all X.outer (fun _ hb=>hb) I.ok.funs
theorem Inv.stack (I:Inv X pins σ H s):s.heap.FunFrames X.base X.stack:=by
 rcases I.ok.stk with e | ⟨e,hf⟩
 · rw [e]; exact I.funs
 · rw [e]
   obtain ⟨m,hn,_⟩:=I.loc
   refine .cons (by rw [I.ok.kind]; decide) hf hn ?_ I.funs
   exact Heap.get?_none_of_le (Nat.le_trans I.ok.bsz I.ok.above)
theorem Inv.stkSub (I:Inv X pins σ H s):∀ b∈frs X.stack,b∈X.env.locals :: X.fs:=fun b hb=>by
 rcases I.ok.stk with e | ⟨e,hf⟩
 · rw [e] at hb; exact List.mem_cons_of_mem _ hb
 · rw [e] at hb
   unfold frs at hb
   rw [List.filterMap_cons,hf] at hb
   exact hb
theorem Inv.stkFree (I:Inv X pins σ H s):∀ b∈frs X.stack,H b=none:=fun b hb=>by
 rcases List.mem_cons.mp (I.stkSub b hb) with e | hb
 · rw [e]; exact I.free
 · obtain ⟨_,o,ho,_⟩:=I.ok.funs.mem hb
   exact I.base.free b o ho (I.ok.frf b hb) fun z=>I.ok.exfs b z hb
theorem Inv.step {g':Array GenState} {t':Nat} {d':Drawn} {ch:List Addr} (I:Inv X pins σ H s)
 (hch:∀ b∈ch,(b∈X.ex∨X.s₀.heap.objs.size≤b)∧b ≠ X.env.locals∧(∀ x c,X.env.cells.lookup x=some c→c ≠ b)∧∀ p∈X.pn++pins,p.1 ≠ b)
 (keep:∀ b o,b ≠ X.env.locals→b ∉ X.fs→b ∉ ch→s.heap.get? b=some o→H b=none→h'.get? b=some o)
 (slot:∀ b o,b ≠ X.env.locals→b∈X.fs→b ∉ ch→s.heap.get? b=some o→H b=none→∃ sl,h'.get? b=some { o with slots:=sl }) (free:∀ b o,b ∉ ch→s.heap.get? b=some o→H b=none→H' b=none)
 (there:∀ b o,b ∉ ch→s.heap.get? b=some o→∃ o',h'.get? b=some o')
 (tups:∀ b xs,H b=some (.tup xs)→H' b=some (.tup xs)) (frzs:∀ b o u,H b=some (.frz o u)→H' b=some (.frz o u)) (tbls:∀ b ps,H b=some (.tbl ps)→∃ more,H' b=some (.tbl (ps++more)))
 (ns:∀ m,s.heap.Ns X.env.locals m→h'.Ns X.env.locals m) (hok:HOk X.prog X.w H' h') (hg:AllBare g') :
 Inv X pins σ H' { s with heap:=h',gens:=g',drawn:=d',toks:=t' }:=by
 have neL:∀ b o,X.s₀.heap.get? b=some o→b ≠ X.env.locals:=fun b o e=>Nat.ne_of_lt (Nat.lt_of_lt_of_le (Heap.lt_size e) I.ok.above)
 have neC:∀ b o,X.s₀.heap.get? b=some o→b ∉ X.ex→b ∉ ch:=fun b o e hx hb=>by
  rcases (hch b hb).1 with z | z
  · exact hx z
  · exact absurd (Nat.lt_of_lt_of_le (Heap.lt_size e) z) (Nat.lt_irrefl _)
 have cellK:∀ x c,X.env.cells.lookup x=some c→∀ v,s.heap.IsCell c v→h'.IsCell c v:=fun x c e v ⟨o,ho,hd⟩=>by
  have nch:c ∉ ch:=fun z=>(hch c z).2.2.1 x c e rfl
  by_cases hc:c∈X.fs
  · obtain ⟨sl,q⟩:=slot c o (I.cne x c e) hc nch ho (I.freeC x c e)
    exact ⟨_,q,hd⟩
  · exact ⟨o,keep c o (I.cne x c e) hc nch ho (I.freeC x c e),hd⟩
 refine ⟨I.ok,I.os,hg,⟨fun b o e n hb hx=>?_,fun b o e n hb hx=>?_,fun b o e n hx=>?_,fun b o e hx=>?_,fun b xs e=>tups b xs (I.base.tups b xs e),fun b o xs e=>frzs b o xs (I.base.frzs b o xs e),fun b ps e=>?_⟩,?_,fun x c e=>?_,?_,fun x c e=>?_,fun p hp=>?_,hok,I.len⟩
 · exact keep b o (neL b o e) hb (neC b o e hx) (I.base.keep b o e n hb hx) (I.base.free b o e n hx)
 · obtain ⟨sl,e1⟩:=I.base.slot b o e n hb hx
   obtain ⟨sl',e2⟩:=slot b _ (neL b o e) hb (neC b o e hx) e1 (I.base.free b o e n hx)
   exact ⟨sl',e2⟩
 · obtain ⟨o',e1⟩:=I.base.there b o e hx
   exact free b o' (neC b o e hx) e1 (I.base.free b o e n hx)
 · obtain ⟨o',e1⟩:=I.base.there b o e hx
   exact there b o' (neC b o e hx) e1
 · obtain ⟨m1,e1⟩:=I.base.tbls b ps e
   obtain ⟨m2,e2⟩:=tbls b _ e1
   exact ⟨m1++m2,by rw [e2,Array.append_assoc]⟩
 · obtain ⟨m,hn,hl⟩:=I.loc
   refine ⟨m,ns m hn,fun i x v e1 e2 e3=>?_⟩
   obtain ⟨u,r,l⟩:=hl i x v e1 e2 e3
   refine ⟨u,r,?_⟩
   rcases l with l | ⟨k,c,e,z⟩
   · exact .inl l
   · exact .inr ⟨k,c,e,cellK x c e _ z⟩
 · obtain ⟨v,z⟩:=I.cell x c e
   exact ⟨v,cellK x c e v z⟩
 · obtain ⟨m,⟨o,_,_,ho,_⟩,_⟩:=I.loc
   exact free _ o (fun z=>(hch _ z).2.1 rfl) ho I.free
 · obtain ⟨v,o,ho,hd⟩:=I.cell x c e
   exact free c o (fun z=>(hch c z).2.2.1 x c e rfl) ho (I.freeC x c e)
 · obtain ⟨e,n,ne,nf,d⟩:=I.pin p hp
   have nch:p.1 ∉ ch:=fun z=>(hch p.1 z).2.2.2 p hp rfl
   exact ⟨keep p.1 p.2 ne nf nch e n,free p.1 p.2 nch e n,ne,nf,d⟩
theorem Inv.un {t':Nat} (I:Inv X pins σ H s) (u:Un X.fs [] H H' s.heap h') (hok:HOk X.prog X.w H' h'):Inv X pins σ H' { s with heap:=h',toks:=t' }:=by
 obtain ⟨m,⟨o,es,ep,ho,r⟩,_⟩:=id I.loc
 obtain ⟨sl,hL⟩:=u.any ho I.free (by simp)
 exact I.step (g':=s.gens) (d':=s.drawn) (ch:=[]) (fun _ z=>nomatch z) (fun b o _ hb _ e n=>u.keep b o e n hb (by simp)) (fun b o _ hb _ e n=>u.slot b o e n hb (by simp)) (fun b o _ e n=>u.free b o e n (by simp)) (fun b o _ e=>u.there b o e (by simp)) u.tups u.frzs u.tbls (fun m' hm=>by
  obtain ⟨o',es',ep',ho',r'⟩:=hm
  rw [ho] at ho'; cases ho'
  exact ⟨_,es',ep',hL,r'⟩) hok I.bare
theorem Inv.call {g':Array GenState} {t':Nat} {d':Drawn} {ch:List Addr} (I:Inv X pins σ H s) (u:Un (frs X.stack) ch H H' s.heap h') (hok:HOk X.prog X.w H' h') (hg:AllBare g')
 (hch:∀ b∈ch,(b∈X.ex∨X.s₀.heap.objs.size≤b)∧b ≠ X.env.locals∧(∀ x c,X.env.cells.lookup x=some c→c ≠ b)∧∀ p∈X.pn++pins,p.1 ≠ b) :
 Inv X pins σ H' { s with heap:=h',gens:=g',drawn:=d',toks:=t' }:=by
 obtain ⟨m,⟨o,es,ep,ho,r⟩,_⟩:=id I.loc
 obtain ⟨sl,hL⟩:=u.any ho I.free fun z=>(hch _ z).2.1 rfl
 exact I.step (ch:=ch) hch (fun b o hL hb hc e n=>u.keep b o e n (fun z=>(List.mem_cons.mp (I.stkSub b z)).elim hL hb) hc) (fun b o _ _ hc e n=>u.any e n hc) (fun b o hc e n=>u.free b o e n hc) (fun b o hc e=>u.there b o e hc) u.tups u.frzs u.tbls (fun m' hm=>by
  obtain ⟨o',es',ep',ho',r'⟩:=hm
  rw [ho] at ho'; cases ho'
  exact ⟨_,es',ep',hL,r'⟩) hok hg
theorem Inv.turned {t':Nat} {it:Addr} (I:Inv X pins σ H s) (k:∀ b o,b ≠ it→s.heap.get? b=some o→h'.get? b=some o) (hn:H it=none) (hL:it ≠ X.env.locals)
 (h1:it∈X.ex∨X.s₀.heap.objs.size≤it) (h2:∀ x c,X.env.cells.lookup x=some c→c ≠ it) (h3:∀ p∈X.pn++pins,p.1 ≠ it):Inv X pins σ H { s with heap:=h',toks:=t' }:=by
 have nit:∀ b u,H b=some u→b ≠ it:=fun b u e z=>by rw [z,hn] at e; cases e
 refine I.step (g':=s.gens) (d':=s.drawn) (ch:=[it]) (fun b hb=>?_) (fun b o _ _ hc e _=>k b o (fun z=>hc (by simp [z])) e) (fun b o _ _ hc e _=>⟨o.slots,k b o (fun z=>hc (by simp [z])) e⟩) (fun _ _ _ _ n=>n)
  (fun b o hc e=>⟨o,k b o (fun z=>hc (by simp [z])) e⟩) (fun _ _ e=>e) (fun _ _ _ e=>e) (fun b ps e=>⟨#[],by rw [e]; simp⟩) (fun m hm=>?_) (fun b u e=>?_) I.bare
 · have e:b=it:=by simpa using hb
   subst e
   exact ⟨h1,hL,h2,h3⟩
 · obtain ⟨o,es,ep,ho,r⟩:=hm
   exact ⟨o,es,ep,k _ o (Ne.symm hL) ho,r⟩
 · refine (I.hok b u e).stay (fun c v hc q=>k c v ?_ q) (fun _ q=>q) fun _ _ q=>q
   rcases hc with z | z
   · rw [z]; exact nit b u e
   · exact nit c _ z
theorem Inv.tok (I:Inv X pins σ H s) (t:Nat):Inv X pins σ H { s with toks:=t }:=I.un (h':=s.heap) (t':=t) Un.refl I.hok
theorem Inv.kept {t':Nat} (I:Inv X pins σ H s) (k:∀ b u,s.heap.get? b=some u→h'.get? b=some u):Inv X pins σ H { s with heap:=h',toks:=t' }:=I.un (Un.kept k) (I.hok.kept k)
theorem Inv.laid {a:Addr} {o:HO} {t':Nat} (I:Inv X pins σ H s) (k:∀ b u,s.heap.get? b=some u→h'.get? b=some u) (hp:s.heap.objs.size≤a) (new:ObjOk X.prog X.w (upd H a o) h' a o) :
 Inv X pins σ (upd H a o) { s with heap:=h',toks:=t' }:=I.un (Un.laid k hp (I.hok.fresh hp)) (I.hok.laid k hp new)
theorem Inv.write {x e:Addr} {o:HO} {t':Nat} (I:Inv X pins σ H s) (mu:Mut (H x)) (he:e=x∨H e=some (.own x)) (k:∀ b u,b ≠ e→s.heap.get? b=some u→h'.get? b=some u) (heo:∃ u,h'.get? e=some u)
 (new:ObjOk X.prog X.w (upd H x o) h' x o):Inv X pins σ (upd H x o) { s with heap:=h',toks:=t' }:=I.un (Un.write mu he k heo) (I.hok.write mu he k heo new)
theorem Inv.pins_of {pins':List (Addr × Obj)} (I:Inv X pins σ H s) (h:∀ p∈pins',s.heap.get? p.1=some p.2∧H p.1=none∧p.1 ≠ X.env.locals∧p.1 ∉ X.fs∧∀ v,p.2.data ≠ .cell v):Inv X pins' σ H s :=
 ⟨I.ok,I.os,I.bare,I.base,I.loc,I.cell,I.free,I.freeC,fun p hp=>(List.mem_append.mp hp).elim (fun z=>I.pin p (List.mem_append_left _ z)) (h p),I.hok,I.len⟩
theorem nodup_ix {N:List Str} (hN:N.Nodup) {i j:Nat} {x:Str} (a:N[i]?=some x) (b:N[j]?=some x):i=j:=by
 obtain ⟨h1,e1⟩:=List.getElem?_eq_some_iff.mp a
 obtain ⟨h2,e2⟩:=List.getElem?_eq_some_iff.mp b
 exact (List.getElem_inj hN).mp (e1.trans e2.symm)
theorem store_ok2 {M:Model} {A:Around} {E:Value→Shared→Prop} {i:Nat} {x:Str} {v:V} {u:Value} {Q:Unit→Shared→Prop} (I:Inv X pins σ H s) (hN:X.N.Nodup) (hi:X.N[i]?=some x) (hx:Loc X.env.scope x) (r:RelV v u)
 (h:∀ s',Inv X pins (σ.set i (some v)) H s'→(∃ a,Heap.SameBut a s.heap s'.heap∧(a=X.env.locals∨X.env.cells.lookup x=some a))→Q () s') (hf:X.fn x=true∨X.env.scope.names.lookup x=some .local:=by first | exact .inl rfl | exact .inr rfl | assumption):wpAny M A (storeName X.env x u) Q E s:=by
 obtain ⟨m,hn,hl⟩:=id I.loc
 have hcls : (X.env.scope.kind == .class || (X.env.scope.kind == .module && X.env.locals != X.env.globals)) = false := by rw [I.ok.kind]; rfl
 have hiσ:i < σ.length:=by rw [I.len]; exact (List.getElem?_eq_some_iff.mp hi).1
 have cne:=I.cne
 have tracked:∀ {a:Addr} {h':Heap},(∃ o,s.heap.get? a=some o∧H a=none)→Heap.SameBut a s.heap h'→HOk X.prog X.w H h':=fun {a h'} ha hs b ob e=>by
  obtain ⟨_,_,hfree⟩:=ha
  refine (I.hok b ob e).stay (fun c w' hc q=>(hs.2 c ?_).trans q) (fun _ q=>q) fun _ _ q=>q
  rintro rfl
  rcases hc with rfl | hc
  · rw [hfree] at e; cases e
  · rw [hfree] at hc; cases hc
 rcases hx with hk | hk
 · refine wpAny_storeName_local hk hn (fun h' hn' hs=>?_) hcls
   obtain ⟨oL,_,_,hoL,_⟩:=id hn
   refine h _ ⟨I.ok,I.os,I.bare,⟨fun b o e n hb hx=>?_,fun b o e n hb hx=>?_,I.base.free,fun b o e hx=>?_,I.base.tups,I.base.frzs,I.base.tbls⟩,⟨_,hn',fun j y v' e1 e2 e3=>?_⟩,fun y c e=>?_,I.free,I.freeC,fun p hp=>?_,tracked ⟨oL,hoL,I.free⟩ hs,by simpa using I.len⟩ ⟨_,hs,.inl rfl⟩
   · exact (hs.2 b (Nat.ne_of_lt (Nat.lt_of_lt_of_le (Heap.lt_size e) I.ok.above))).trans (I.base.keep b o e n hb hx)
   · obtain ⟨sl,e1⟩:=I.base.slot b o e n hb hx
     exact ⟨sl,(hs.2 b (Nat.ne_of_lt (Nat.lt_of_lt_of_le (Heap.lt_size e) I.ok.above))).trans e1⟩
   · obtain ⟨o',e1⟩:=I.base.there b o e hx
     exact ⟨o',(hs.2 b (Nat.ne_of_lt (Nat.lt_of_lt_of_le (Heap.lt_size e) I.ok.above))).trans e1⟩
   · by_cases hj:j=i
     · subst hj
       rw [hi] at e1; cases e1
       rw [List.getElem?_set_self hiσ] at e2
       cases e2
       exact ⟨u,r,.inl ⟨hk,by simp⟩⟩
     · rw [List.getElem?_set_ne (Ne.symm hj)] at e2
       obtain ⟨u',r',q⟩:=hl j y v' e1 e2 e3
       refine ⟨u',r',?_⟩
       rcases q with ⟨k,e⟩ | ⟨k,c,e,z⟩
       · refine .inl ⟨k,?_⟩
         have:y ≠ x:=fun e=>hj (nodup_ix hN e1 (e ▸ hi))
         simp [this,e]
       · exact .inr ⟨k,c,e,z.sameBut hs (cne y c e)⟩
   · obtain ⟨w',z⟩:=I.cell y c e
     exact ⟨w',z.sameBut hs (cne y c e)⟩
   · obtain ⟨e,n,ne,nf,d⟩:=I.pin p hp
     exact ⟨(hs.2 p.1 ne).trans e,n,ne,nf,d⟩
 · have hfn:X.fn x=true:=by
    rcases hf with z | z
    · exact z
    · rw [z] at hk; cases hk
   obtain ⟨c,hc⟩:=I.ok.has x (.inl hk)
   obtain ⟨w',z⟩:=I.cell x c hc
   refine wpAny_storeName_cell I.ok.kind hk hc z (fun h' hc' hs=>?_)
   obtain ⟨oc,hoc,hocd⟩:=id z
   refine h { s with heap:=h' } ⟨I.ok,I.os,I.bare,⟨fun b o e n hb hx=>?_,fun b o e n hb hx=>?_,I.base.free,fun b o e hx=>?_,I.base.tups,I.base.frzs,I.base.tbls⟩,⟨m,hn.sameBut hs (Ne.symm (cne x c hc)),fun j y v' e1 e2 e3=>?_⟩,fun y c' e=>?_,I.free,I.freeC,fun p hp=>?_,tracked ⟨oc,hoc,I.freeC x c hc⟩ hs,by simpa using I.len⟩ ⟨c,hs,.inr hc⟩
   · exact (hs.2 b (Nat.ne_of_lt (Nat.lt_of_lt_of_le (Heap.lt_size e) (I.ok.cab x c hfn hc)))).trans (I.base.keep b o e n hb hx)
   · obtain ⟨sl,e1⟩:=I.base.slot b o e n hb hx
     exact ⟨sl,(hs.2 b (Nat.ne_of_lt (Nat.lt_of_lt_of_le (Heap.lt_size e) (I.ok.cab x c hfn hc)))).trans e1⟩
   · obtain ⟨o',e1⟩:=I.base.there b o e hx
     exact ⟨o',(hs.2 b (Nat.ne_of_lt (Nat.lt_of_lt_of_le (Heap.lt_size e) (I.ok.cab x c hfn hc)))).trans e1⟩
   · by_cases hj:j=i
     · subst hj
       rw [hi] at e1; cases e1
       rw [List.getElem?_set_self hiσ] at e2
       cases e2
       exact ⟨u,r,.inr ⟨.inl hk,c,hc,hc'⟩⟩
     · rw [List.getElem?_set_ne (Ne.symm hj)] at e2
       obtain ⟨u',r',q⟩:=hl j y v' e1 e2 e3
       refine ⟨u',r',?_⟩
       rcases q with q | ⟨k,c',e,z'⟩
       · exact .inl q
       · refine .inr ⟨k,c',e,z'.sameBut hs ?_⟩
         rintro rfl
         exact hj (nodup_ix hN e1 (I.ok.inj _ _ _ e hc ▸ hi))
   · by_cases hcc:c'=c
     · subst hcc; exact ⟨_,hc'⟩
     · obtain ⟨w2,z2⟩:=I.cell y c' e
       exact ⟨w2,z2.sameBut hs hcc⟩
   · obtain ⟨e,n,ne,nf,d⟩:=I.pin p hp
     refine ⟨(hs.2 p.1 ?_).trans e,n,ne,nf,d⟩
     intro q
     rw [q,hoc] at e
     have q':oc=p.2:=Option.some.inj e
     exact d w' (by rw [← q']; exact hocd)
theorem store_ok {M:Model} {A:Around} {E:Value→Shared→Prop} {i:Nat} {x:Str} {v:V} {u:Value} {Q:Unit→Shared→Prop} (I:Inv X pins σ H s) (hN:X.N.Nodup) (hi:X.N[i]?=some x) (hx:Loc X.env.scope x) (r:RelV v u)
 (h:∀ s',Inv X pins (σ.set i (some v)) H s'→Q () s') (hf:X.fn x=true∨X.env.scope.names.lookup x=some .local:=by first | exact .inl rfl | exact .inr rfl | assumption):wpAny M A (storeName X.env x u) Q E s :=
 store_ok2 I hN hi hx r (fun s' I' _=>h s' I') hf
theorem Inv.call' {s':Shared} {ch:List Addr} (I:Inv X pins σ H s) (ho:s'.os=s.os) (u:Un (frs X.stack) ch H H' s.heap s'.heap) (hok:HOk X.prog X.w H' s'.heap) (hg:AllBare s'.gens)
 (hch:∀ b∈ch,(b∈X.ex∨X.s₀.heap.objs.size≤b)∧b ≠ X.env.locals∧(∀ x c,X.env.cells.lookup x=some c→c ≠ b)∧∀ p∈X.pn++pins,p.1 ≠ b):Inv X pins σ H' s':=by
 obtain ⟨h',g',d',t',o'⟩:=s'
 have e:o'=s.os:=ho
 subst e
 exact I.call (g':=g') (t':=t') (d':=d') u hok hg hch
end
abbrev XK:=Value→Option Addr→Hp→Prop
abbrev St:=List (Option V)
abbrev VK:=V→Hp→Prop
abbrev TE:=St→Hp→VK→Prop
abbrev TT:=St→Hp→(Bool→Hp→Prop)→Prop
abbrev TA:=St→Hp→(List V→Hp→Prop)→Prop
structure Ends where
 nx:St→Hp→Prop
 rt:VK
 bk:St→Hp→Prop:=fun _ _=>False
 ct:St→Hp→Prop:=fun _ _=>False
abbrev TS:=Ends→St→Hp→Prop
def EP (X:Cx) (pins:List (Addr × Obj)) (σ:St) (Q:VK) (u:Value) (s':Shared):Prop:=∃ v H',Inv X pins σ H' s'∧RelV v u∧Q v H'
def TP (X:Cx) (pins:List (Addr × Obj)) (σ:St) (Q:Bool→Hp→Prop) (b:Bool) (s':Shared):Prop:=∃ H',Inv X pins σ H' s'∧Q b H'
def AP (X:Cx) (pins:List (Addr × Obj)) (σ:St) (Q:List V→Hp→Prop) (us:List Value) (s':Shared):Prop:=∃ vs H',Inv X pins σ H' s'∧Vals vs us∧Q vs H'
def SP (X:Cx) (pins:List (Addr × Obj)) (D:Ends) (f:Flow) (s':Shared):Prop :=
 match f with
 | .next=>∃ σ' H',Inv X pins σ' H' s'∧D.nx σ' H'
 | .brk=>∃ σ' H',Inv X pins σ' H' s'∧D.bk σ' H'
 | .cont=>∃ σ' H',Inv X pins σ' H' s'∧D.ct σ' H'
 | .ret u=>∃ v σ' H',Inv X pins σ' H' s'∧RelV v u∧D.rt v H'
def PE (X:Cx) (e:Expr) (t:TE):Prop :=
 ∀ (pins:List (Addr × Obj)) (s:Shared) (σ:St) (H:Hp) (Q:VK),Inv X pins σ H s→t σ H Q→wpAny (model X.prog X.w) X.A (eval e X.env) (EP X pins σ Q) X.xe s
def PT (X:Cx) (e:Expr) (t:TT):Prop :=
 ∀ (pins:List (Addr × Obj)) (s:Shared) (σ:St) (H:Hp) (Q:Bool→Hp→Prop),Inv X pins σ H s→t σ H Q→wpAny (model X.prog X.w) X.A (isTrue e X.env (eval e X.env)) (TP X pins σ Q) X.xe s
def PW (X:Cx) (e:Expr) (t:TT):Prop :=
 ∀ (whole:Sem Value) (pins:List (Addr × Obj)) (s:Shared) (σ:St) (H:Hp) (Q:Bool→Hp→Prop),Inv X pins σ H s→t σ H Q→wpAny (model X.prog X.w) X.A (isTrue e X.env whole) (TP X pins σ Q) X.xe s
theorem PW.pt {X:Cx} {e:Expr} {t:TT} (h:PW X e t):PT X e t:=h _
def PA (X:Cx) (es:List Expr) (t:TA):Prop :=
 ∀ (pos:Pos) (pins:List (Addr × Obj)) (s:Shared) (σ:St) (H:Hp) (Q:List V→Hp→Prop),Inv X pins σ H s→t σ H Q→wpAny (model X.prog X.w) X.A (spliced (backTo pos (starEach es X.env))) (AP X pins σ Q) X.xe s
def PS (X:Cx) (st:Stmt) (t:TS):Prop :=
 ∀ (pins:List (Addr × Obj)) (s:Shared) (σ:St) (H:Hp) (D:Ends),Inv X pins σ H s→t D σ H→wpAny (model X.prog X.w) X.A (exec st X.env) (SP X pins D) X.xe s
def PSs (X:Cx) (st:List Stmt) (t:TS):Prop :=
 ∀ (pins:List (Addr × Obj)) (s:Shared) (σ:St) (H:Hp) (D:Ends),Inv X pins σ H s→t D σ H→wpAny (model X.prog X.w) X.A (execs st X.env) (SP X pins D) X.xe s
theorem thn {α:Type} {t:Sem α} {Q Q':α→Shared→Prop} {M:Model} {A:Around} {E:Value→Shared→Prop} {s:Shared} (h:wpAny M A t Q E s) (hQ:∀ a s,Q a s→Q' a s):wpAny M A t Q' E s:=wpAny_mono h hQ fun _ _ x=>x
end L2
namespace L2
open PySem PySem.Spec PyProof.Rows
section
variable {X:Cx}
def tVar (i:Nat):TE:=fun σ H Q=>∃ v,σ[i]?=some (some v)∧Q v H
def tC (v:V):TE:=fun _ H Q=>Q v H
theorem pe_var {i:Nat} {x:Str} {pos:Pos} (hN:X.N[i]?=some x) (hv:Vis X.env.scope x) (hd:(x == ("__debug__":Str))=false:=by decide) (hcd:(x == ("__classdict__":Str))=false:=by decide):PE X (.Name x pos) (tVar i):=by
 intro pins s σ H Q I h
 obtain ⟨v,e,h⟩:=h
 obtain ⟨m,hn,hl⟩:=I.loc
 obtain ⟨u,r,l⟩:=hl i x v hN e hv
 have fin:EP X pins σ Q u s:=⟨v,H,I,r,h⟩
 rcases l with ⟨hk,hm⟩ | ⟨hk,c,hc,hcell⟩
 · exact wpAny_Name (wpAny_loadName_local I.ok.kind hk hn hm fin) hd
 · rcases hk with hk | hk
   · exact wpAny_Name (wpAny_loadName_cell I.ok.kind hk hc hcell fin) hd
   · exact wpAny_Name (wpAny_loadName_free I.ok.kind hk hc hcell fin hcd) hd
theorem pe_int {i j pos}:PE X (.Constant (.int i) j pos) (tC (.int i)):=fun _ _ _ H _ I h=>wpAny_Constant_int ⟨.int i,H,I.tok _,⟨_,rfl⟩,h⟩
theorem pe_bl {b j pos}:PE X (.Constant (.bool b) j pos) (tC (.bl b)):=fun _ _ _ H _ I h=>Constant_bool ⟨.bl b,H,I,rfl,h⟩
theorem pe_non {j pos}:PE X (.Constant .none j pos) (tC .non):=fun _ _ _ H _ I h=>Constant_none ⟨.non,H,I,rfl,h⟩
theorem pe_str {x j pos}:PE X (.Constant (.str x) j pos) (tC (.str x)):=fun _ _ _ H _ I h=>Calls.Constant_str ⟨.str x,H,I.tok _,⟨_,rfl⟩,h⟩
def Gl (X:Cx) (x:Str):Prop:=X.env.kindOf x=some .globalImplicit
theorem ld_glob {E:Value→Shared→Prop} {pins:List (Addr × Obj)} {s:Shared} {σ:St} {H:Hp} {x:Str} {u:Value} {pos:Pos} {Q:Value→Shared→Prop} (I:Inv X pins σ H s) (hg:Gl X x) (hm:X.mg x=some u) (h:Q u s)
 (hd:(x == ("__debug__":Str))=false:=by decide):wpAny (model X.prog X.w) X.A (eval (.Name x pos) X.env) Q E s :=
 Calls.Name_function_global I.ok.kind hg (Calls.loadGlobal_global (by rw [I.ok.glob]; exact I.mod.glob.keeps I.bk) hm h) hd
theorem ld_blt {E:Value→Shared→Prop} {pins:List (Addr × Obj)} {s:Shared} {σ:St} {H:Hp} {x:Str} {u:Value} {pos:Pos} {Q:Value→Shared→Prop} (I:Inv X pins σ H s) (hg:Gl X x) (hm:X.mg x=none) (hv:bootBuiltins x=some u) (h:Q u s)
 (hn:x ≠ "__name__":=by decide) (hd:(x == ("__debug__":Str))=false:=by decide):wpAny (model X.prog X.w) X.A (eval (.Name x pos) X.env) Q E s:=by
 obtain ⟨mb,h1,h2⟩:=I.mod.blt
 exact Calls.Name_function_global I.ok.kind hg (Calls.loadGlobal_builtin (by rw [I.ok.glob]; exact I.mod.glob.keeps I.bk) hm (by rw [I.ok.blt]; exact h1.keeps I.bk) ((h2 x hn).trans hv) h) hd
theorem pe_glob {x:Str} {v:V} {u:Value} {pos:Pos} (hg:Gl X x) (hm:X.mg x=some u) (r:RelV v u) (hd:(x == ("__debug__":Str))=false:=by decide):PE X (.Name x pos) (tC v) :=
 fun _ _ _ H _ I h=>ld_glob I hg hm ⟨v,H,I,r,h⟩ hd
theorem pe_bltn {x:Str} {v:V} {u:Value} {pos:Pos} (hg:Gl X x) (hm:X.mg x=none) (hv:bootBuiltins x=some u) (r:RelV v u) (hn:x ≠ "__name__":=by decide) (hd:(x == ("__debug__":Str))=false:=by decide):PE X (.Name x pos) (tC v) :=
 fun _ _ _ H _ I h=>ld_blt I hg hm hv ⟨v,H,I,r,h⟩ hn hd
variable {a b:Expr} {ta tb:TE} {pos:Pos}
def tB (t:TE):TT:=fun σ H Q=>t σ H fun x H1=>∃ c,x=.bl c∧Q c H1
theorem pt_val {e:Expr} {t:TE} (h:PE X e t) (he:∀ whole,isTrue e X.env whole=(do let v ← whole; standAt e.pos; holding [v] (truthy v)):=by intro _; rfl):PT X e (tB t):=by
 intro pins s σ H Q I hw
 refine isTrue_plain (thn (h pins s σ H _ I hw) fun v s1 ⟨x,H1,I1,r1,q1⟩=>?_) (he _)
 obtain ⟨d,rfl,q⟩:=q1
 cases r1
 exact wpAny_truthy_bool ⟨H1,I1,q⟩
variable {tA tB':TT} {rest:List Expr}
def tAnd (t u:TT):TT:=fun σ H Q=>t σ H fun c H1=>if c=true then u σ H1 Q else Q false H1
def tOr (t u:TT):TT:=fun σ H Q=>t σ H fun c H1=>if c=true then Q true H1 else u σ H1 Q
def tNot (t : TT) : TT := fun σ H Q => t σ H fun c H1 => Q (!c) H1
theorem pw_or1 (ha:PT X a tA):PW X (.BoolOp .Or [a] pos) tA:=by
 intro wh pins s σ H Q I h
 refine isTrue_or (thn (ha pins s σ H Q I h) fun c s1 e=>?_)
 cases c with
 | false=>exact isTrue_or_nil e
 | true=>exact e
theorem pw_or (ha:PT X a tA) (hb:PW X (.BoolOp .Or (b :: rest) pos) tB'):PW X (.BoolOp .Or (a :: b :: rest) pos) (tOr tA tB'):=by
 intro wh pins s σ H Q I h
 refine isTrue_or (thn (ha pins s σ H _ I h) fun c s1 ⟨H1,I1,q1⟩=>?_)
 cases c with
 | true=>exact ⟨H1,I1,q1⟩
 | false=>exact hb wh pins s1 σ H1 Q I1 q1
theorem pt_not (ha:PT X a tA):PT X (.UnaryOp .Not a pos) (tNot tA):=by
 intro pins s σ H Q I h
 exact isTrue_not (ha pins s σ H (fun c H1 => Q (!c) H1) I h)
def tAndV (ta tb:TE):TE:=fun σ H Q=>ta σ H fun x H1=>∃ c,x=.bl c∧if c=true then tb σ H1 Q else Q (.bl false) H1
def tOrV (ta tb:TE):TE:=fun σ H Q=>ta σ H fun x H1=>∃ c,x=.bl c∧if c=true then Q (.bl true) H1 else tb σ H1 Q
def tNotV (ta : TE) : TE := fun σ H Q => ta σ H fun x H1 => ∃ c, x = .bl c ∧ Q (.bl (!c)) H1
theorem pe_one {op} {t:TE} (h:PE X a t):PE X (.BoolOp op [a] pos) t:=fun pins s σ H Q I hw=>BoolOp_one (h pins s σ H Q I hw)
theorem pe_and (ha:PE X a ta) (hb:PE X (.BoolOp .And (b :: rest) pos) tb):PE X (.BoolOp .And (a :: b :: rest) pos) (tAndV ta tb):=by
 intro pins s σ H Q I h
 refine BoolOp_and (thn (ha pins s σ H _ I h) fun v s1 ⟨x,H1,I1,r1,q1⟩=>?_)
 obtain ⟨c,rfl,q1⟩:=q1
 cases r1
 refine wpAny_truthy_bool ?_
 cases c with
 | true=>exact hb pins s1 σ H1 Q I1 q1
 | false=>exact ⟨.bl false,H1,I1,rfl,q1⟩
theorem pe_not (ha:PE X a ta):PE X (.UnaryOp .Not a pos) (tNotV ta):=by
 intro pins s σ H Q I h
 refine UnaryOp_ (thn (ha pins s σ H _ I h) fun v s1 ⟨x,H1,I1,r1,q1⟩=>?_)
 obtain ⟨c,rfl,q1⟩:=q1
 cases r1
 exact not_of (wpAny_truthy_bool ⟨.bl (!c), H1, I1, rfl, q1⟩)
def tIf (t:TT) (ta tb:TE):TE:=fun σ H Q=>t σ H fun c H1=>if c=true then ta σ H1 Q else tb σ H1 Q
theorem pe_ifExp {c:Expr} (hc:PT X c tA) (ha:PE X a ta) (hb:PE X b tb):PE X (.IfExp c a b pos) (tIf tA ta tb):=by
 intro pins s σ H Q I h
 refine wpAny_IfExp (thn (hc pins s σ H _ I h) fun d s1 ⟨H1,I1,q1⟩=>?_)
 cases d with
 | true=>exact ha pins s1 σ H1 Q I1 q1
 | false=>exact hb pins s1 σ H1 Q I1 q1
end
end L2
namespace L2
open PySem PySem.Spec PyProof.Rows
def SqL (K:PySem.W.Frag) (H:Hp) (a:Addr) (xs:List V):Prop :=
 Rd H a (.lst xs) ∨
  ∃ (o:Obj) (its:Array Value) (n:Nat),K.lookup a=some o∧o.cls=.type "list"∧o.dict=none∧o.data=.seq its n∧its.size≤sizeLine∧Vals xs its.toList
def SqT (K:PySem.W.Frag) (H:Hp) (a:Addr) (xs:List V):Prop :=
 Rd H a (.tup xs) ∨
  ∃ (o:Obj) (its:Array Value) (n:Nat),K.lookup a=some o∧o.cls=.type "tuple"∧o.data=.seq its n∧its.size≤sizeLine∧Vals xs its.toList
def absV:Value→Option V
 | .none=>some .non
 | .bool b=>some (.bl b)
 | .int i _=>some (.int i)
 | .str x _=>some (.str x)
 | .bytes b _=>some (.byt b)
 | .float b _=>some (.flt b)
 | .ref a=>some (.ref a)
 | .type n=>some (.ty n)
 | _=>none
theorem RelV.abs {x:V} {u:Value} (r:RelV x u):absV u=some x:=by
 cases x with
 | non=>cases r; rfl
 | bl _=>cases r; rfl
 | int _=>obtain ⟨t,rfl⟩:=r; rfl
 | str _=>obtain ⟨t,rfl⟩:=r; rfl
 | byt _=>obtain ⟨t,rfl⟩:=r; rfl
 | flt _=>obtain ⟨t,rfl⟩:=r; rfl
 | ref _=>cases r; rfl
 | ty _=>cases r; rfl
theorem RelV.inj {x y:V} {u:Value} (r:RelV x u) (q:RelV y u):x=y:=Option.some.inj (r.abs.symm.trans q.abs)
theorem Vals.inj:∀ {xs ys:List V} {us:List Value},Vals xs us→Vals ys us→xs=ys
 | _,_,_,.nil,.nil=>rfl
 | _,_,_,.cons r t,.cons r' t'=>by rw [r.inj r',Vals.inj t t']
section
variable {X:Cx} {pins:List (Addr × Obj)} {σ:St} {H:Hp} {s:Shared} {a:Addr} {xs ys:List V}
theorem SqL.of {K:PySem.W.Frag} (h:H a=some (.lst xs)):SqL K H a xs:=.inl (.inl h)
theorem SqT.of {K:PySem.W.Frag} (h:H a=some (.tup xs)):SqT K H a xs:=.inl (.inl h)
theorem Inv.list (I:Inv X pins σ H s) (h:SqL X.K H a xs):∃ its:List Value,Vals xs its∧PlainL s.heap a its.toArray∧xs.length≤sizeLine:=by
 rcases h with h | ⟨o,its,n,hk,hc,hd,hs,hz,r⟩
 · obtain ⟨z,its,n,r,e⟩:=h.ok I.hok
   exact ⟨its,r,⟨_,n,e,rfl,rfl,rfl⟩,z⟩
 · refine ⟨its.toList,r,⟨o,n,I.kIn a o hk,hc,hd,by simpa using hs⟩,?_⟩
   have e:=r.length
   simp only [Array.length_toList] at e
   omega
theorem Inv.tuple (I:Inv X pins σ H s) (h:SqT X.K H a xs):∃ its:List Value,Vals xs its∧IsTup s.heap a its.toArray∧xs.length≤sizeLine:=by
 rcases h with h | ⟨o,its,n,hk,hc,hs,hz,r⟩
 · obtain ⟨z,its,r,p⟩:=h.ok I.hok
   exact ⟨its,r,p,z⟩
 · refine ⟨its.toList,r,⟨o,I.kIn a o hk,hc,n,by simpa using hs⟩,?_⟩
   have e:=r.length
   simp only [Array.length_toList] at e
   omega
theorem Inv.list_inj (I:Inv X pins σ H s) (h:SqL X.K H a xs) (h':SqL X.K H a ys):xs=ys:=by
 obtain ⟨its,r,⟨o,n,e,_,_,d⟩,_⟩:=I.list h
 obtain ⟨its',r',⟨o',n',e',_,_,d'⟩,_⟩:=I.list h'
 rw [e] at e'; cases e'
 rw [d] at d'
 injection d' with d1 _
 have:its=its':=by simpa using congrArg Array.toList d1
 subst this
 exact r.inj r'
end
abbrev Cx.wish (X:Cx) (E:Value→Shared→Prop):Cx:={ X with xe:=E }
abbrev Cx.nox (X:Cx):Cx:=X.wish fun _ _=>False
theorem Cx.Ok.wish {X:Cx} (ok:X.Ok) (E:Value→Shared→Prop):(X.wish E).Ok :=
 ⟨ok.mod,ok.kind,ok.glob,ok.blt,ok.above,ok.inj,ok.has,ok.cab,ok.hd,ok.frames,ok.stk,ok.exf,ok.bs,ok.bsz,ok.noex,ok.exfs,ok.funs,ok.frf⟩
theorem Cx.Ok.unwish {X:Cx} {E:Value→Shared→Prop} (ok:(X.wish E).Ok):X.Ok :=
 ⟨ok.mod,ok.kind,ok.glob,ok.blt,ok.above,ok.inj,ok.has,ok.cab,ok.hd,ok.frames,ok.stk,ok.exf,ok.bs,ok.bsz,ok.noex,ok.exfs,ok.funs,ok.frf⟩
section
variable {X:Cx} {pins:List (Addr × Obj)} {σ:St} {H:Hp} {s:Shared} {E:Value→Shared→Prop}
theorem Inv.wish (I:Inv X pins σ H s) (E:Value→Shared→Prop):Inv (X.wish E) pins σ H s:=⟨I.ok.wish E,I.os,I.bare,I.base,I.loc,I.cell,I.free,I.freeC,I.pin,I.hok,I.len⟩
theorem Inv.unwish (I:Inv (X.wish E) pins σ H s):Inv X pins σ H s:=⟨I.ok.unwish,I.os,I.bare,I.base,I.loc,I.cell,I.free,I.freeC,I.pin,I.hok,I.len⟩
theorem SP.unwish {D:Ends} {f:Flow} {s':Shared} (h:SP (X.wish E) pins D f s'):SP X pins D f s':=by
 cases f with
 | next=>obtain ⟨σ',H',I,q⟩:=h; exact ⟨σ',H',I.unwish,q⟩
 | brk=>obtain ⟨σ',H',I,q⟩:=h; exact ⟨σ',H',I.unwish,q⟩
 | cont=>obtain ⟨σ',H',I,q⟩:=h; exact ⟨σ',H',I.unwish,q⟩
 | ret u=>obtain ⟨v,σ',H',I,r,q⟩:=h; exact ⟨v,σ',H',I.unwish,r,q⟩
theorem PE.nox {e:Expr} {t:TE} (h:PE X.nox e t):PE X e t:=fun pins s σ H Q I hw =>
 wpAny_mono (h pins s σ H Q (I.wish _) hw) (fun _ _ ⟨v,H',I',r,q⟩=>⟨v,H',I'.unwish,r,q⟩) fun _ _ z=>False.elim z
theorem PT.nox {e:Expr} {t:TT} (h:PT X.nox e t):PT X e t:=fun pins s σ H Q I hw =>
 wpAny_mono (h pins s σ H Q (I.wish _) hw) (fun _ _ ⟨H',I',q⟩=>⟨H',I'.unwish,q⟩) fun _ _ z=>False.elim z
theorem PSs.nox {st:List Stmt} {t:TS} (h:PSs X.nox st t):PSs X st t:=fun pins s σ H D I hw =>
 wpAny_mono (h pins s σ H D (I.wish _) hw) (fun _ _ q=>q.unwish) fun _ _ z=>False.elim z
end
section
variable {X:Cx} {st:Stmt} {rest:List Stmt} {t u:TS} {e:Expr} {te:TE} {pos:Pos}
def tNext:TS:=fun D σ H=>D.nx σ H
def tSeq (t u:TS):TS:=fun D σ H=>t { D with nx:=u D } σ H
theorem pss_nil:PSs X [] tNext:=fun _ _ σ H _ I h=>wpAny_execs_nil ⟨σ,H,I,h⟩
theorem pss_cons (h1:PS X st t) (h2:PSs X rest u):PSs X (st :: rest) (tSeq t u):=by
 intro pins s σ H D I h
 refine wpAny_execs_cons (thn (h1 pins s σ H { D with nx:=u D } I h) fun f s1 q=>?_)
 cases f with
 | next =>
  obtain ⟨σ',H',I',q⟩:=q
  exact h2 pins s1 σ' H' D I' q
 | ret v=>exact q
 | brk=>exact q
 | cont=>exact q
theorem pss_one (h1:PS X st t):PSs X [st] t:=by
 intro pins s σ H D I h
 refine wpAny_execs_cons (thn (h1 pins s σ H D I h) fun f s1 q=>?_)
 cases f with
 | next=>exact wpAny_execs_nil q
 | ret v=>exact q
 | brk=>exact q
 | cont=>exact q
def tBreak:TS:=fun D σ H=>D.bk σ H
def tCont:TS:=fun D σ H=>D.ct σ H
theorem Inv.quiet {pins:List (Addr × Obj)} {σ:St} {H:Hp} {s:Shared} (I:Inv X pins σ H s):interactive X.env=false:=by simp [interactive,I.ok.kind]
def tDrop (te:TE):TS:=fun D σ H=>te σ H fun _ H1=>D.nx σ H1
theorem ps_expr (he:PE X e te) (hs:swapsWith e none pos.line X.env=pure false:=by rfl):PS X (.Expr e pos) (tDrop te):=by
 intro pins s σ H D I h
 exact wpAny_Expr_any (thn (he pins s σ H _ I h) fun v s1 ⟨x,H1,I1,r1,q1⟩=>⟨σ,H1,I1,q1⟩) I.quiet hs
def tRet (te:TE):TS:=fun D σ H=>te σ H D.rt
theorem ps_ret (he:PE X e te):PS X (.Return (some e) pos) (tRet te):=by
 intro pins s σ H D I h
 exact wpAny_Return_some (thn (he pins s σ H _ I h) fun v s1 ⟨x,H1,I1,r1,q1⟩=>⟨x,σ,H1,I1,r1,q1⟩)
def tRetN:TS:=fun D _ H=>D.rt .non H
def tIfS (c:TT) (t u:TS):TS:=fun D σ H=>c σ H fun b H1=>if b=true then t D σ H1 else u D σ H1
theorem ps_if {c:Expr} {a b:List Stmt} {tc:TT} (hc:PT X c tc) (ha:PSs X a t) (hb:PSs X b u):PS X (.If c a b pos) (tIfS tc t u):=by
 intro pins s σ H D I h
 refine wpAny_If (thn (hc pins s σ H _ I h) fun d s1 ⟨H1,I1,q1⟩=>?_)
 cases d with
 | true=>exact ha pins s1 σ H1 D I1 q1
 | false=>exact hb pins s1 σ H1 D I1 q1
def tNever:TS:=fun _ _ _=>False
theorem ps_never:PS X st tNever:=fun _ _ _ _ _ _ h=>h.elim
end
abbrev TG:=V→St→Hp→(St→Hp→Prop)→Prop
abbrev TGs:=List V→St→Hp→(St→Hp→Prop)→Prop
def PG (X:Cx) (target:Expr) (t:TG):Prop :=
 ∀ (pins:List (Addr × Obj)) (s:Shared) (σ:St) (H:Hp) (v:V) (u:Value) (Q:St→Hp→Prop),Inv X pins σ H s→RelV v u→t v σ H Q →
  wpAny (model X.prog X.w) X.A (assign target X.env u) (fun _ s'=>∃ σ' H',Inv X pins σ' H' s'∧Q σ' H') X.xe s
def PGs (X:Cx) (ts:List Expr) (t:TGs):Prop :=
 ∀ (pins:List (Addr × Obj)) (s:Shared) (σ:St) (H:Hp) (vs:List V) (us:List Value) (Q:St→Hp→Prop),Inv X pins σ H s→Vals vs us→t vs σ H Q →
  wpAny (model X.prog X.w) X.A (assignInOrder ((assignEach ts X.env).map (·.2)) us) (fun _ s'=>∃ σ' H',Inv X pins σ' H' s'∧Q σ' H') X.xe s
abbrev TSet:=V→V→V→Hp→(Hp→Prop)→Prop
def PSet (X:Cx) (t:TSet):Prop :=
 ∀ (pins:List (Addr × Obj)) (s:Shared) (σ:St) (H:Hp) (o i v:V) (ov iv u:Value) (Q:Hp→Prop),Inv X pins σ H s→RelV o ov→RelV i iv→RelV v u→t o i v H Q →
  wpAny (model X.prog X.w) X.A (setItem ov iv u) (fun _ s'=>∃ H',Inv X pins σ H' s'∧Q H') X.xe s
abbrev TIp:=V→V→Hp→VK→Prop
def PIp (X:Cx) (op:Operator) (t:TIp):Prop :=
 ∀ (pins:List (Addr × Obj)) (s:Shared) (σ:St) (H:Hp) (x y:V) (v u:Value) (Q:VK),Inv X pins σ H s→RelV x v→RelV y u→t x y H Q →
  wpAny (model X.prog X.w) X.A (inplaceOp op v u) (EP X pins σ Q) X.xe s
section
variable {X:Cx} {pos:Pos}
def gName (i:Nat):TG:=fun v σ H Q=>Q (σ.set i (some v)) H
theorem pg_name {i:Nat} {x:Str} (hN:X.N.Nodup) (hi:X.N[i]?=some x) (hx:Loc X.env.scope x) (hf:X.fn x=true∨X.env.scope.names.lookup x=some .local:=by first | exact .inl rfl | exact .inr rfl | assumption):PG X (.Name x pos) (gName i):=by
 intro pins s σ H v u Q I r h
 exact wpAny_assign_Name (store_ok I hN hi hx r (fun s' I'=>⟨_,H,I',h⟩) hf)
def gNil:TGs:=fun vs σ H Q=>vs=[]∧Q σ H
def gCons (t:TG) (u:TGs):TGs:=fun vs σ H Q=>∃ v r,vs=v :: r∧t v σ H fun σ' H'=>u r σ' H' Q
theorem pgs_nil:PGs X [] gNil:=by
 intro pins s σ H vs us Q I r h
 obtain ⟨e,h⟩:=h
 subst e
 cases r
 exact assignInOrder_nil ⟨σ,H,I,h⟩
theorem pgs_cons {e:Expr} {es:List Expr} {t:TG} {u:TGs} (h1:PG X e t) (h2:PGs X es u)
 (hs:(assignEach (e :: es) X.env).map (·.2)=assign e X.env :: (assignEach es X.env).map (·.2):=by rfl):PGs X (e :: es) (gCons t u):=by
 intro pins s σ H vs us Q I r h
 obtain ⟨v,vr,e1,h⟩:=h
 subst e1
 cases r with
 | cons r rr =>
  rw [hs]
  refine assignInOrder_cons (thn (h1 pins s σ H _ _ _ I r h) fun _ s1 ⟨σ1,H1,I1,q1⟩=>?_)
  exact h2 pins s1 σ1 H1 _ _ Q I1 rr q1
def gTup (K:PySem.W.Frag) (n:Nat) (t:TGs):TG:=fun v σ H Q=>∃ a xs,v=.ref a∧SqT K H a xs∧xs.length=n∧t xs σ H Q
theorem pg_tup {es:List Expr} {k:Nat} {t:TGs} {n:Nat} (hc:X.calm=true) (h:PGs X es t)
 (hn:(assignEach es X.env).length=n:=by rfl) (hst:(assignEach es X.env).findIdx? (·.1)=none:=by rfl):PG X (.Tuple es k pos) (gTup X.K n t):=by
 intro pins s σ H v u Q I r hw
 obtain ⟨a,xs,e1,hq,hl,hw⟩:=hw
 subst e1
 cases r
 obtain ⟨its,rv,ht,hz⟩:=I.tuple hq
 refine assign_Tuple_tuple (I.ok.hd hc) ht (by simp [hn,← hl,rv.length]) hst fun h' hx=>?_
 have I1:Inv X pins σ H { s with heap:=h' }:=I.kept (t':=s.toks) fun b o e=>hx b o (Nat.ne_of_lt (Heap.lt_size e)) e
 exact h pins _ σ H xs _ Q I1 (by simpa using rv) hw
def gSub (to ti:TE) (t:TSet):TG:=fun v σ H Q=>to σ H fun o H1=>ti σ H1 fun i H2=>t o i v H2 fun H3=>Q σ H3
theorem pg_sub {o i:Expr} {to ti:TE} {t:TSet} (ho:PE X o to) (hi:PE X i ti) (hs:PSet X t)
 (ha:∀ v,assign (.Subscript o i pos) X.env v=(do
  let ov ← holding [v] (eval o X.env)
  let iv ← holding [v,ov] (eval i X.env)
  standAt pos
  holding [v,ov,iv] (setItem ov iv v)
  release [v,ov,iv] []):=by intro _; rfl):PG X (.Subscript o i pos) (gSub to ti t):=by
 intro pins s σ H v u Q I r h
 rw [ha]
 refine wpAny_bind (wpAny_holding (thn (ho pins s σ H _ I h) fun ov s1 ⟨x,H1,I1,r1,q1⟩=>?_))
 refine wpAny_bind (wpAny_holding (thn (hi pins s1 σ H1 _ I1 q1) fun iv s2 ⟨y,H2,I2,r2,q2⟩=>?_))
 refine wpAny_bind (wpAny_standAt (wpAny_bind (wpAny_holding (thn (hs pins s2 σ H2 x y v ov iv u _ I2 r1 r2 r q2) fun _ s3 ⟨H3,I3,q3⟩=>?_))))
 exact wpAny_release ⟨σ,H3,I3,q3⟩
def tAsg (te:TE) (g:TG):TS:=fun D σ H=>te σ H fun x H1=>g x σ H1 D.nx
theorem ps_asg {tg e:Expr} {te:TE} {g:TG} (he:PE X e te) (hg:PG X tg g) (hs:swapsWithSole [tg] e pos.line X.env=pure false:=by rfl) (hw:swappedStores [tg] e X.env=pure none:=by rfl)
 (h1:(assignEach [tg] X.env).map (·.2)=[assign tg X.env]:=by rfl):PS X (.Assign [tg] e pos) (tAsg te g):=by
 intro pins s σ H D I h
 refine wpAny_Assign_stores (thn (he pins s σ H _ I h) fun v s1 ⟨x,H1,I1,r1,q1⟩=>?_) hs hw
 rw [h1]
 exact thn (hg pins s1 σ H1 x v _ I1 r1 q1) fun _ s2 q=>q
theorem ps_set {i:Nat} {x:Str} {e:Expr} {te:TE} {pos':Pos} (hN:X.N.Nodup) (hi:X.N[i]?=some x) (hx:Loc X.env.scope x) (he:PE X e te) (hs:swapsWith e (some (.Name x pos')) pos.line X.env=pure false:=by rfl) (hf:X.fn x=true∨X.env.scope.names.lookup x=some .local:=by first | exact .inl rfl | exact .inr rfl | assumption) :
 PS X (.Assign [.Name x pos'] e pos) (tAsg te (gName i)):=by
 intro pins s σ H D I h
 refine wpAny_Assign_Name (thn (he pins s σ H _ I h) fun v s1 ⟨y,H1,I1,r1,q1⟩=>?_) hs
 exact store_ok I1 hN hi hx r1 (fun s2 I2=>⟨_,H1,I2,q1⟩) hf
def tAug (i:Nat) (te:TE) (ti:TIp):TS:=fun D σ H=>∃ x,σ[i]?=some (some x)∧te σ H fun y H1=>ti x y H1 fun z H2=>D.nx (σ.set i (some z)) H2
theorem ps_aug {i:Nat} {x:Str} {e:Expr} {te:TE} {op:Operator} {ti:TIp} {pos':Pos} (hN:X.N.Nodup) (hi:X.N[i]?=some x) (hx:Loc X.env.scope x) (he:PE X e te) (ho:PIp X op ti) (hf:X.fn x=true∨X.env.scope.names.lookup x=some .local:=by first | exact .inl rfl | exact .inr rfl | assumption) :
 PS X (.AugAssign (.Name x pos') op e pos) (tAug i te ti):=by
 intro pins s σ H D I h
 obtain ⟨v,e1,h⟩:=h
 obtain ⟨m,hn,hl⟩:=I.loc
 have vis:Vis X.env.scope x:=by rcases hx with k | k; exact .inl k; exact .inr (.inl k)
 obtain ⟨u,r,l⟩:=hl i x v hi e1 vis
 refine wpAny_AugAssign_Name ?_
 have go:wpAny (model X.prog X.w) X.A (eval e X.env) (fun w s₂=>wpAny (model X.prog X.w) X.A (inplaceOp op u w) (fun r s₃=>wpAny (model X.prog X.w) X.A (storeName X.env x r) (fun _=>SP X pins D .next) X.xe s₃) X.xe s₂) X.xe s:=by
  refine thn (he pins s σ H _ I h) fun w s1 ⟨y,H1,I1,r1,q1⟩=>?_
  refine thn (ho pins s1 σ H1 v y u w _ I1 r r1 q1) fun z s2 ⟨zv,H2,I2,r2,q2⟩=>?_
  exact store_ok I2 hN hi hx r2 (fun s3 I3=>⟨_,H2,I3,q2⟩) hf
 rcases l with ⟨hk,hm⟩ | ⟨hk,c,hc,hcell⟩
 · exact wpAny_loadName_local I.ok.kind hk hn hm go
 · rcases hk with hk | hk
   · exact wpAny_loadName_cell I.ok.kind hk hc hcell go
   · rcases hx with k | k
     · have:X.env.scope.names.lookup x=some .free:=hk
       rw [k] at this; cases this
     · have:X.env.scope.names.lookup x=some .free:=hk
       rw [k] at this; cases this
def tAugS (to ti te:TE) (tget:V→V→Hp→VK→Prop) (tip:TIp) (tset:TSet):TS:=fun D σ H=>to σ H fun o H1=>ti σ H1 fun i H2=>tget o i H2 fun x H3=>te σ H3 fun y H4=>tip x y H4 fun z H5=>tset o i z H5 fun H6=>D.nx σ H6
def PGet (X:Cx) (t:V→V→Hp→VK→Prop):Prop :=
 ∀ (pins:List (Addr × Obj)) (s:Shared) (σ:St) (H:Hp) (o i:V) (ov iv:Value) (Q:VK),Inv X pins σ H s→RelV o ov→RelV i iv→t o i H Q →
  wpAny (model X.prog X.w) X.A (getItem ov iv) (EP X pins σ Q) X.xe s
theorem ps_augS {o i e:Expr} {to ti te:TE} {tget:V→V→Hp→VK→Prop} {tip:TIp} {tset:TSet} {op:Operator} {tpos:Pos} (ho:PE X o to) (hi:PE X i ti) (hg:PGet X tget) (he:PE X e te) (hp:PIp X op tip) (hs:PSet X tset)
 (ha:∀ ov iv new,augStore i ov iv new=(do holding [new,ov,iv] (setItem ov iv new); release [new,ov,iv] []; pure .next):=by intros; rfl):PS X (.AugAssign (.Subscript o i tpos) op e pos) (tAugS to ti te tget tip tset):=by
 intro pins s σ H D I h
 refine wpAny_AugAssign_SubscriptAny (thn (ho pins s σ H _ I h) fun ov s1 ⟨x1,H1,I1,r1,q1⟩=>?_) ha
 refine thn (hi pins s1 σ H1 _ I1 q1) fun iv s2 ⟨x2,H2,I2,r2,q2⟩=>?_
 refine thn (hg pins s2 σ H2 x1 x2 ov iv _ I2 r1 r2 q2) fun old s3 ⟨x3,H3,I3,r3,q3⟩=>?_
 refine thn (he pins s3 σ H3 _ I3 q3) fun v s4 ⟨x4,H4,I4,r4,q4⟩=>?_
 refine thn (hp pins s4 σ H4 x3 x4 old v _ I4 r3 r4 q4) fun new s5 ⟨x5,H5,I5,r5,q5⟩=>?_
 exact thn (hs pins s5 σ H5 x1 x2 x5 ov iv new _ I5 r1 r2 r5 q5) fun _ s6 ⟨H6,I6,q6⟩=>⟨σ,H6,I6,q6⟩
end
section
variable {X:Cx} {pos:Pos}
def tWhile (c:TT) (tb:TS):TS:=fun D σ H=>∃ W:Nat→St→Hp→Prop,(∃ m,W m σ H)∧∀ m σ H,W m σ H →
 c σ H fun b H1=>if b=true then ∃ N:St→Hp→Prop,(∀ σ' H',N σ' H'→∃ m',m' < m∧W m' σ' H')∧tb { D with nx:=N,ct:=N,bk:=D.nx } σ H1 else D.nx σ H1
theorem ps_while {c:Expr} {body:List Stmt} {tc:TT} {tb:TS} (hp:PassesOwn (model X.prog X.w) X.A X.env X.xe) (hc:PT X c tc) (hb:PSs X body tb):PS X (.While c body [] pos) (tWhile tc tb):=by
 intro pins s σ H D I h
 obtain ⟨W,⟨m0,w0⟩,turn⟩:=h
 refine wpAny_While (codeAny_whileLoop (fun n s'=>∃ σ' H',Inv X pins σ' H' s'∧W n σ' H') ?_ m0 ⟨σ,H,I,w0⟩)
 rintro n s1 ⟨σ1,H1,I1,w1⟩
 refine wpAny_passesOwn hp (thn (hc pins s1 σ1 H1 _ I1 (turn n σ1 H1 w1)) fun b s2 ⟨H2,I2,q2⟩=>?_)
 cases b with
 | true =>
  obtain ⟨N,hN,q2⟩:=q2
  rw [if_pos rfl]
  refine wpAny_passesOwn hp (thn (hb pins s2 σ1 H2 _ I2 q2) fun f s3 q3=>?_)
  cases f with
  | next =>
   obtain ⟨σ3,H3,I3,n3⟩:=q3
   obtain ⟨m',hm,w3⟩:=hN σ3 H3 n3
   exact ⟨m',hm,σ3,H3,I3,w3⟩
  | cont =>
   obtain ⟨σ3,H3,I3,n3⟩:=q3
   obtain ⟨m',hm,w3⟩:=hN σ3 H3 n3
   exact ⟨m',hm,σ3,H3,I3,w3⟩
  | brk=>exact q3
  | ret v=>exact q3
 | false =>
  rw [if_neg Bool.false_ne_true]
  exact wpAny_execs_nil ⟨σ1,H2,I2,q2⟩
end
structure It where
 go:Nat→Hp→Prop
 yld:Nat→Hp→V→Hp→Prop
 stop:Nat→Hp→Prop
def FpOk (X:Cx) (pins:List (Addr × Obj)) (H:Hp) (b:Addr):Prop :=
 H b=none∧b ≠ X.env.locals∧b ∉ X.fs∧(b∈X.ex∨X.s₀.heap.objs.size≤b)∧(∀ x c,X.env.cells.lookup x=some c→c ≠ b)∧∀ p∈X.pn++pins,p.1 ≠ b
theorem Inv.fpOk {X:Cx} {pins:List (Addr × Obj)} {σ:St} {H H':Hp} {s:Shared} {b:Addr} (I:Inv X pins σ H s) (hb:s.heap.objs.size≤b) (hn:H' b=none):FpOk X pins H' b:=by
 refine ⟨hn,Nat.ne_of_gt (Nat.lt_of_lt_of_le I.lt hb),I.nofs hb,.inr (Nat.le_trans I.sz hb),fun x c e z=>?_,fun p hp z=>?_⟩
 · obtain ⟨v,q⟩:=I.cell x c e
   exact absurd (Nat.lt_of_lt_of_le q.lt (by rw [z]; exact hb)) (Nat.lt_irrefl _)
 · exact absurd (Nat.lt_of_lt_of_le (Heap.lt_size (I.pin p hp).1) (by rw [z]; exact hb)) (Nat.lt_irrefl _)
structure Turn (P:Program) (w:World) (K:PySem.W.Frag) (tg:Expr) (J:It) (fp:List Addr) (it:Addr) (tn:Nat→Heap→Prop):Prop where
 mem:it∈fp
 obj:∀ i h,tn i h→∀ b∈fp,∃ o,h.get? b=some o∧∀ v,o.data ≠ .cell v
 keep:∀ i h h',tn i h→(∀ b∈fp,∀ o,h.get? b=some o→h'.get? b=some o)→tn i h'
 item:∀ (X:Cx),X.prog=P→X.w=w→X.K=K→X.calm=true→∀ (i:Nat) (pins:List (Addr × Obj)) (s:Shared) (σ:St) (H:Hp) (E:Value→Shared→Prop),Inv X pins σ H s→(∀ b∈fp,FpOk X pins H b)→tn i s.heap→J.go i H →
  wpAny (model P w) X.A (pyNext (.ref it)) (fun r s1=>∃ u,r=some u ∧
   wpAny (model P w) X.A (letOwnedTupleGo tg (.ref it) u) (fun _ s2=>∃ x H',Inv X pins σ H' s2∧RelV x u∧J.yld i H x H'∧tn (i+1) s2.heap∧∀ b∈fp,H' b=none) E s1) E s
 done:∀ (X:Cx),X.prog=P→X.w=w→X.K=K→X.calm=true→∀ (i:Nat) (pins:List (Addr × Obj)) (s:Shared) (σ:St) (H:Hp) (E:Value→Shared→Prop),Inv X pins σ H s→(∀ b∈fp,FpOk X pins H b)→tn i s.heap→J.stop i H →
  wpAny (model P w) X.A (pyNext (.ref it)) (fun r s1=>r=none∧Inv X pins σ H s1) E s
 self:∀ (A:Around) (i:Nat) (s:Shared) (Q:Value→Shared→Prop) (E:Value→Shared→Prop),tn i s.heap→Q (.ref it) s→wpAny (model P w) A (pyIter (.ref it)) Q E s
abbrev TI:=St→Hp→(It→Hp→Prop)→Prop
def PIE (X:Cx) (pins:List (Addr × Obj)) (σ:St) (tg:Expr) (R:It→Hp→Prop) (itv:Value) (s2:Shared):Prop :=
 ∃ (it:Addr) (fp:List Addr) (tn:Nat→Heap→Prop) (J:It) (H':Hp),itv=.ref it∧Inv X pins σ H' s2∧Turn X.prog X.w X.K tg J fp it tn∧tn 0 s2.heap∧(∀ b∈fp,FpOk X pins H' b)∧R J H'
def PI (X:Cx) (tg iter:Expr) (wi:TI):Prop :=
 ∀ (pins:List (Addr × Obj)) (s:Shared) (σ:St) (H:Hp) (R:It→Hp→Prop),Inv X pins σ H s→wi σ H R →
  wpAny (model X.prog X.w) X.A (eval iter X.env) (fun v s1=>wpAny (model X.prog X.w) X.A (pyIter v) (PIE X pins σ tg R) X.xe s1) X.xe s
theorem go_of {M:Model} {A:Around} {E:Value→Shared→Prop} {s:Shared} {tg:Expr} {it:Addr} {u:Value} {o:Obj} {n:String} {vs:Array Value} {Q:Unit→Shared→Prop} (ho:s.heap.get? it=some o) (hc:o.cls=.type n) (hd:o.data=.fields vs)
 (hn:["enumerate","zip","dict_itemiterator","dict_reverseitemiterator","odict_iterator","itertools.zip_longest","itertools.pairwise"].contains n=false) (hQ:Q () s):wpAny M A (letOwnedTupleGo tg (.ref it) u) Q E s:=by
 unfold letOwnedTupleGo
 cases tg <;> first
  | exact wpAny_pure hQ
  | (cases u <;> first
   | exact wpAny_pure hQ
   | (refine wpAny_bind (wpAny_load ho ?_)
      rw [hc,hd]
      show wpAny M A (if (["enumerate","zip","dict_itemiterator","dict_reverseitemiterator","odict_iterator","itertools.zip_longest","itertools.pairwise"].contains n && vs[0]? == some (rawInt _))=true then _ else _) Q E s
      rw [if_neg (by intro h; rw [hn,Bool.false_and] at h; cases h)]
      exact wpAny_pure hQ))
def Itl (K:PySem.W.Frag) (a:Addr):It :=
 ⟨fun i H=>∃ xs x,SqL K H a xs∧xs[i]?=some x,fun i H x H'=>H'=H∧∀ xs,SqL K H a xs→xs[i]?=some x,fun i H=>∃ xs,SqL K H a xs∧xs.length≤i⟩
def Itt (K:PySem.W.Frag) (a:Addr):It :=
 ⟨fun i H=>∃ xs x,SqT K H a xs∧xs[i]?=some x,fun i H x H'=>H'=H∧∀ xs,SqT K H a xs→xs[i]?=some x,fun i H=>∃ xs,SqT K H a xs∧xs.length≤i⟩
def Itr (lo:Int) (n:Nat):It:=⟨fun i _=>i < n,fun i H x H'=>H'=H∧x=.int (lo+i),fun i _=>n≤i⟩
theorem turn_list {P:Program} {w:World} {K:PySem.W.Frag} {tg:Expr} (a it:Addr):Turn P w K tg (Itl K a) [it] it (fun i h=>h.IsListIter it a i) where
 mem:=by simp
 obj:=fun i h st b hb=>by
  have e:b=it:=by simpa using hb
  subst e
  obtain ⟨o,e,c,d⟩:=st
  exact ⟨o,e,fun v z=>by rw [d] at z; cases z⟩
 keep:=fun i h h' st k=>st.at fun o e=>k it (by simp) o e
 item:=by
  intro X hP hw hK hc i pins s σ H E I hf st hg
  subst hP hw hK
  obtain ⟨xs,x,hq,hx⟩:=hg
  obtain ⟨its,rv,p,hz⟩:=I.list hq
  obtain ⟨u,hu,ru⟩:=rv.get hx
  obtain ⟨f0,f1,f2,f3,f4,f5⟩:=hf it (by simp)
  refine wpAny_pyNext_list_item st p.isList (x:=u) (by simpa using hu) fun h' st' sb=>?_
  have I1:Inv X pins σ H { s with heap:=h' }:=I.turned (t':=s.toks) (fun b o hb e=>(sb.2 b hb).trans e) f0 f1 f3 f4 f5
  obtain ⟨o,e,c,d⟩:=id st'
  exact ⟨u,rfl,go_of (s:={ s with heap:=h' }) e c d (by decide) ⟨x,H,I1,ru,⟨rfl,fun ys hy=>by rw [I.list_inj hy hq]; exact hx⟩,st',fun b hb=>(hf b hb).1⟩⟩
 done:=by
  intro X hP hw hK hc i pins s σ H E I hf st hg
  subst hP hw hK
  obtain ⟨xs,hq,hx⟩:=hg
  obtain ⟨its,rv,p,hz⟩:=I.list hq
  obtain ⟨f0,f1,f2,f3,f4,f5⟩:=hf it (by simp)
  have hl:=rv.length
  exact wpAny_pyNext_list_end (I.ok.hd hc) st p.isList (by simp; omega) fun h' eb=>⟨rfl,I.turned (t':=s.toks) (fun b o hb e=>eb b o hb e) f0 f1 f3 f4 f5⟩
 self:=fun _ _ _ _ _ st h=>wpAny_pyIter_listiter st h
theorem turn_range {P:Program} {w:World} {K:PySem.W.Frag} {tg:Expr} (it:Addr) (lo:Int) (n:Nat):Turn P w K tg (Itr lo n) [it] it (fun i h=>IsRangeIter h it (lo+(i:Nat) * 1) ((n:Int) - (i:Nat)) 1) where
 mem:=by simp
 obj:=fun i h st b hb=>by
  have e:b=it:=by simpa using hb
  subst e
  exact ⟨_,st,fun v z=>by
   have z':Data.fields _=Data.cell v:=z
   cases z'⟩
 keep:=fun i h h' st k=>k it (by simp) _ st
 item:=by
  intro X hP hw hK hc i pins s σ H E I hf st hg
  subst hP hw hK
  obtain ⟨f0,f1,f2,f3,f4,f5⟩:=hf it (by simp)
  have W:=Walks.range (prog:=X.prog) (w:=X.w) (I.ok.hd hc) it lo 1 n
  refine W.item i s _ _ hg st fun v h' tk hv st' kk=>?_
  obtain ⟨t,rfl⟩:=hv
  have I1:Inv X pins σ H { s with heap:=h',toks:=tk }:=I.turned (fun b o hb e=>kk b o (by simpa using hb) e) f0 f1 f3 f4 f5
  refine ⟨_,rfl,go_of (s:={ s with heap:=h',toks:=tk }) (n:="range_iterator") st' rfl rfl (by decide) ⟨.int (lo+i),H,I1,⟨t,?_⟩,⟨rfl,rfl⟩,st',fun b hb=>(hf b hb).1⟩⟩
  rw [Int.mul_one]
 done:=by
  intro X hP hw hK hc i pins s σ H E I hf st hg
  subst hP hw hK
  obtain ⟨f0,f1,f2,f3,f4,f5⟩:=hf it (by simp)
  exact wpAny_pyNext_range_end (I.ok.hd hc) st (by have:n≤i:=hg; omega) fun h' eb=>⟨rfl,I.turned (t':=s.toks) (fun b o hb e=>eb b o hb e) f0 f1 f3 f4 f5⟩
 self:=fun _ _ _ _ _ st h=>wpAny_pyIter_rangeiter st h
end L2
namespace L2
open PySem PySem.Spec PyProof.Rows
section
variable {X:Cx} {tg:Expr}
def iList (K:PySem.W.Frag) (tl:TE):TI:=fun σ H R=>tl σ H fun x H1=>∃ a,x=.ref a∧(∃ xs,SqL K H1 a xs)∧R (Itl K a) H1
def iTup (K:PySem.W.Frag) (tl:TE):TI:=fun σ H R=>tl σ H fun x H1=>∃ a,x=.ref a∧(∃ xs,SqT K H1 a xs)∧R (Itt K a) H1
theorem pi_list {l:Expr} {tl:TE} (hl:PE X l tl):PI X tg l (iList X.K tl):=by
 intro pins s σ H R I h
 refine thn (hl pins s σ H _ I h) fun v s1 ⟨x,H1,I1,r1,q1⟩=>?_
 obtain ⟨a,e,⟨xs,hq⟩,q⟩:=q1
 subst e
 cases r1
 obtain ⟨its,rv,p,hz⟩:=I1.list hq
 refine wpAny_pyIter_list p.isList ?_
 refine ⟨s1.heap.objs.size,[s1.heap.objs.size],_,_,H1,rfl,I1.kept (t':=s1.toks) fun b o e=>Heap.get?_push_of_some _ e,turn_list a _,⟨_,Heap.get?_push_size _ rfl,rfl,rfl⟩,fun b hb=>?_,q⟩
 have e:b=s1.heap.objs.size:=by simpa using hb
 subst e
 exact I1.fpOk (Nat.le_refl _) (I1.hok.fresh (Nat.le_refl _))
theorem range_it {pins:List (Addr × Obj)} {σ:St} {H:Hp} {s:Shared} {R:It→Hp→Prop} {E:Value→Shared→Prop} {lo hi:Int} {t u v:Tok} {tk:Nat} (I:Inv X pins σ H s) (h1 : -(2 ^ 62)≤lo) (h2:lo < 2 ^ 62) (h3 : -(2 ^ 62)≤hi) (h4:hi < 2 ^ 62)
 (q:R (Itr lo (hi - lo).toNat) H):wpAny (model X.prog X.w) X.A (pyIter (.ref s.heap.objs.size)) (PIE X pins σ tg R) E { s with heap:=s.heap.push { cls:=.type "range",data:=.fields #[.int lo t,.int hi u,.int 1 v] },toks:=tk }:=by
 refine wpAny_pyIter_range (IsRange.new ..) (small_one h1 h2 h3 h4) ?_
 have I1:Inv X pins σ H { s with heap:=s.heap.push { cls:=.type "range",data:=.fields #[.int lo t,.int hi u,.int 1 v] },toks:=tk }:=I.kept fun b o e=>Heap.get?_push_of_some _ e
 refine ⟨(s.heap.push { cls:=.type "range",data:=.fields #[.int lo t,.int hi u,.int 1 v] }).objs.size,[(s.heap.push { cls:=.type "range",data:=.fields #[.int lo t,.int hi u,.int 1 v] }).objs.size],_,_,H,rfl,
  I1.kept (t':=tk) fun b o e=>Heap.get?_push_of_some _ e,turn_range _ lo (hi - lo).toNat,?_,fun b hb=>?_,q⟩
 · have e1:lo+((0:Nat):Int) * 1=lo:=by simp
   have e2:(((hi - lo).toNat:Nat):Int) - ((0:Nat):Int)=Builtin.Range.rangeSize lo hi 1:=by rw [rangeSize_one]; split <;> omega
   show IsRangeIter _ _ (lo+((0:Nat):Int) * 1) ((((hi - lo).toNat:Nat):Int) - ((0:Nat):Int)) 1
   rw [e1,e2]
   exact Heap.get?_push_size _ rfl
 · have e:b=(s.heap.push { cls:=.type "range",data:=.fields #[.int lo t,.int hi u,.int 1 v] }).objs.size:=by simpa using hb
   subst e
   exact I1.fpOk (Nat.le_refl _) (I1.hok.fresh (Nat.le_refl _))
def iRng1 (ta:TA):TI:=fun σ H R=>ta σ H fun vs H1=>∃ j:Int,vs=[.int j] ∧ -(2 ^ 62)≤j∧j < 2 ^ 62∧R (Itr 0 j.toNat) H1
def iRng2 (ta:TA):TI:=fun σ H R=>ta σ H fun vs H1=>∃ i j:Int,vs=[.int i,.int j]∧(-(2 ^ 62)≤i∧i < 2 ^ 62 ∧ -(2 ^ 62)≤j∧j < 2 ^ 62)∧R (Itr i (j - i).toNat) H1
theorem pi_range1 {a:Expr} {ta:TA} {p pos:Pos} (hg:Gl X "range") (hm:X.mg "range"=none) (ha:PA X [a] ta) (hs:starEach [a] X.env=[(false,eval a X.env)]:=by rfl):PI X tg (.Call (.Name "range" p) [a] [] pos) (iRng1 ta):=by
 intro pins s σ H R I h
 refine Call_ (ld_blt I hg hm boot_range (PyProof.Rows.callWith_type1 (thn (ha pos pins s σ H _ I h) fun us s1 ⟨vs,H1,I1,r1,q1⟩=>?_) hs rfl))
 obtain ⟨j,e,q1,q2,q⟩:=q1
 subst e
 cases r1 with
 | cons r rr =>
  cases rr
  obtain ⟨t,rfl⟩:=r
  exact call_range_1 (range_it I1 (by omega) (by omega) q1 q2 (by simpa using q))
theorem pi_range2 {a b:Expr} {ta:TA} {p pos:Pos} (hg:Gl X "range") (hm:X.mg "range"=none) (ha:PA X [a,b] ta) (hs:starEach [a,b] X.env=[(false,eval a X.env),(false,eval b X.env)]:=by rfl) (hs2:starEach [b] X.env=[(false,eval b X.env)]:=by rfl) :
 PI X tg (.Call (.Name "range" p) [a,b] [] pos) (iRng2 ta):=by
 intro pins s σ H R I h
 refine Call_ (ld_blt I hg hm boot_range (PyProof.Rows.callWith_type1 (thn (ha pos pins s σ H _ I h) fun us s1 ⟨vs,H1,I1,r1,q1⟩=>?_) (by rw [hs,hs2]) (by rw [hs2]; rfl)))
 obtain ⟨i,j,e,⟨q1,q2,q3,q4⟩,q⟩:=q1
 subst e
 cases r1 with
 | cons r rr =>
  cases rr with
  | cons r' rr =>
   cases rr
   obtain ⟨t,rfl⟩:=r
   obtain ⟨t',rfl⟩:=r'
   exact call_range_2 (range_it I1 q1 q2 q3 q4 q)
def tFor (wi:TI) (g:TG) (tb:TS):TS:=fun D σ H=>wi σ H fun J H1=>∃ W:Nat→Nat→St→Hp→Prop,(∃ m,W 0 m σ H1)∧∀ i m σ H,W i m σ H →
 (J.stop i H∧D.nx σ H)∨(J.go i H∧∃ N:St→Hp→Prop,(∀ σ' H',N σ' H'→∃ m',m' < m∧W (i+1) m' σ' H')∧∀ x H',J.yld i H x H'→g x σ H' fun σ2 H2=>tb { D with nx:=N,ct:=N,bk:=D.nx } σ2 H2)
def pinsAt (fp:List Addr) (h:Heap):List (Addr × Obj):=fp.filterMap fun b=>(h.get? b).map fun o=>(b,o)
theorem mem_pinsAt {fp:List Addr} {h:Heap} {b:Addr} {o:Obj} (hb:b∈fp) (e:h.get? b=some o):(b,o)∈pinsAt fp h:=List.mem_filterMap.mpr ⟨b,hb,by rw [e]; rfl⟩
theorem of_pinsAt {fp:List Addr} {h:Heap} {p:Addr × Obj} (hp:p∈pinsAt fp h):p.1∈fp∧h.get? p.1=some p.2:=by
 obtain ⟨b,hb,e⟩:=List.mem_filterMap.mp hp
 cases q:h.get? b with
 | none=>rw [q] at e; cases e
 | some o =>
  rw [q] at e
  have e':(b,o)=p:=Option.some.inj e
  subst e'
  exact ⟨hb,q⟩
theorem Inv.pinned {pins:List (Addr × Obj)} {σ:St} {H:Hp} {s:Shared} {fp:List Addr} (I:Inv X pins σ H s) (hf:∀ b∈fp,FpOk X pins H b) (ho:∀ b∈fp,∃ o,s.heap.get? b=some o∧∀ v,o.data ≠ .cell v):Inv X (pins++pinsAt fp s.heap) σ H s :=
 I.pins_of fun p hp=>(List.mem_append.mp hp).elim (fun z=>I.pin p (List.mem_append_right _ z)) fun z=>by
  obtain ⟨hb,e⟩:=of_pinsAt z
  obtain ⟨f0,f1,f2,_⟩:=hf p.1 hb
  obtain ⟨o,e',d⟩:=ho p.1 hb
  rw [e] at e'; cases e'
  exact ⟨e,f0,f1,f2,d⟩
theorem Inv.unpinned {pins pl:List (Addr × Obj)} {σ:St} {H:Hp} {s:Shared} (I:Inv X (pins++pl) σ H s):Inv X pins σ H s:=I.pins_of fun p hp=>I.pin p (List.mem_append_right _ (List.mem_append_left _ hp))
theorem ps_for {iter:Expr} {body:List Stmt} {wi:TI} {g:TG} {tb:TS} {pos:Pos} (hp:PassesOwn (model X.prog X.w) X.A X.env X.xe) (hc:X.calm=true) (hi:PI X tg iter wi) (hg:PG X tg g) (hb:PSs X body tb)
 (hs:∀ x,foldedSetIterable iter X.env x=pure x:=by intro _; rfl):PS X (.For tg iter body [] pos) (tFor wi g tb):=by
 intro pins s σ H D I h
 refine wpAny_For (thn (hi pins s σ H _ I h) fun v s1 h1=>thn h1 fun itv s2 h2=>?_) hs
 obtain ⟨it,fp,tn,J,H2,e,I2,T,st2,f2,W,⟨m0,w0⟩,turn⟩:=h2
 subst e
 have stat:∀ {H':Hp},(∀ b∈fp,H' b=none)→∀ b∈fp,FpOk X pins H' b:=fun hn b hb=>⟨hn b hb,(f2 b hb).2⟩
 refine codeAny_forLoop_any (fun n s'=>∃ i σ' H',Inv X pins σ' H' s'∧tn i s'.heap∧(∀ b∈fp,H' b=none)∧W i n σ' H') ?_ m0 ⟨0,σ,H2,I2,st2,fun b hb=>(f2 b hb).1,w0⟩
 rintro n s3 ⟨i,σ3,H3,I3,st3,fr3,w3⟩
 rcases turn i n σ3 H3 w3 with ⟨stop,qn⟩ | ⟨go,N,hN,step⟩
 · refine wpAny_passesOwn hp (thn (T.done X rfl rfl rfl hc i pins s3 σ3 H3 X.xe I3 (stat fr3) st3 stop) fun r s4 ⟨hr,I4⟩=>?_)
   subst hr
   exact wpAny_execs_nil ⟨σ3,H3,I4,qn⟩
 · refine wpAny_passesOwn hp (thn (T.item X rfl rfl rfl hc i pins s3 σ3 H3 X.xe I3 (stat fr3) st3 go) fun r s4 ⟨u,hr,h4⟩=>?_)
   subst hr
   refine wpAny_passesOwn hp (thn h4 fun _ s5 ⟨x,H5,I5,r5,y5,st5,fr5⟩=>?_)
   have I5':=I5.pinned (stat fr5) (T.obj _ _ st5)
   refine wpAny_passesOwn hp (thn (hg _ s5 σ3 H5 x u _ I5' r5 (step x H5 y5)) fun _ s6 ⟨σ6,H6,I6,q6⟩=>?_)
   refine wpAny_passesOwn hp (thn (hb _ s6 σ6 H6 _ I6 q6) fun f s7 q7=>?_)
   have again:∀ {σ7:St} {H7:Hp},Inv X (pins++pinsAt fp s5.heap) σ7 H7 s7→N σ7 H7→∃ m,m < n∧∃ i σ' H',Inv X pins σ' H' s7∧tn i s7.heap∧(∀ b∈fp,H' b=none)∧W i m σ' H':=fun {σ7 H7} I7 n7=>by
    obtain ⟨m',hm,w7⟩:=hN σ7 H7 n7
    refine ⟨m',hm,i+1,σ7,H7,I7.unpinned,T.keep _ _ _ st5 fun b hb o e=>(I7.pin (b,o) (List.mem_append_right _ (List.mem_append_right _ (mem_pinsAt hb e)))).1,fun b hb=>?_,w7⟩
    obtain ⟨o,e,d⟩:=T.obj _ _ st5 b hb
    exact (I7.pin (b,o) (List.mem_append_right _ (List.mem_append_right _ (mem_pinsAt hb e)))).2.1
   cases f with
   | next=>obtain ⟨σ7,H7,I7,n7⟩:=q7; exact again I7 n7
   | cont=>obtain ⟨σ7,H7,I7,n7⟩:=q7; exact again I7 n7
   | brk=>obtain ⟨σ7,H7,I7,q7⟩:=q7; exact ⟨σ7,H7,I7.unpinned,q7⟩
   | ret v=>obtain ⟨x7,σ7,H7,I7,r7,q7⟩:=q7; exact ⟨x7,σ7,H7,I7.unpinned,r7,q7⟩
end
theorem for_list {K:PySem.W.Frag} {a:Addr} {xs:List V} {g:TG} {tb:TS} {D:Ends} {σ:St} {H:Hp} (Pv:Nat→St→Hp→Prop) (h0:Pv 0 σ H) (hl:∀ i σ H,i≤xs.length→Pv i σ H→SqL K H a xs)
 (hs:∀ i x σ H,xs[i]?=some x→Pv i σ H→g x σ H fun σ2 H2=>tb { D with nx:=Pv (i+1),ct:=Pv (i+1),bk:=D.nx } σ2 H2) (hd:∀ σ H,Pv xs.length σ H→D.nx σ H) :
 ∃ W:Nat→Nat→St→Hp→Prop,(∃ m,W 0 m σ H)∧∀ i m σ H,W i m σ H →
  ((Itl K a).stop i H∧D.nx σ H)∨((Itl K a).go i H∧∃ N:St→Hp→Prop,(∀ σ' H',N σ' H'→∃ m',m' < m∧W (i+1) m' σ' H')∧∀ x H',(Itl K a).yld i H x H'→g x σ H' fun σ2 H2=>tb { D with nx:=N,ct:=N,bk:=D.nx } σ2 H2):=by
 refine ⟨fun i m σ H=>m=xs.length - i∧i≤xs.length∧Pv i σ H,⟨xs.length,by simp,Nat.zero_le _,h0⟩,?_⟩
 rintro i m σ H ⟨rfl,hi,p⟩
 have q:=hl i σ H hi p
 by_cases hlt:i < xs.length
 · refine .inr ⟨⟨xs,xs[i],q,by simp [hlt]⟩,Pv (i+1),fun σ' H' p'=>⟨xs.length - (i+1),by omega,rfl,hlt,p'⟩,fun x H' y=>?_⟩
   obtain ⟨e,y⟩:=y
   subst e
   exact hs i x σ _ (y xs q) p
 · have e:i=xs.length:=by omega
   subst e
   exact .inl ⟨⟨xs,q,Nat.le_refl _⟩,hd σ H p⟩
theorem for_range {lo:Int} {n:Nat} {g:TG} {tb:TS} {D:Ends} {σ:St} {H:Hp} (Pv:Nat→St→Hp→Prop) (h0:Pv 0 σ H)
 (hs:∀ i σ H,i < n→Pv i σ H→g (.int (lo+i)) σ H fun σ2 H2=>tb { D with nx:=Pv (i+1),ct:=Pv (i+1),bk:=D.nx } σ2 H2) (hd:∀ σ H,Pv n σ H→D.nx σ H) :
 ∃ W:Nat→Nat→St→Hp→Prop,(∃ m,W 0 m σ H)∧∀ i m σ H,W i m σ H →
  ((Itr lo n).stop i H∧D.nx σ H)∨((Itr lo n).go i H∧∃ N:St→Hp→Prop,(∀ σ' H',N σ' H'→∃ m',m' < m∧W (i+1) m' σ' H')∧∀ x H',(Itr lo n).yld i H x H'→g x σ H' fun σ2 H2=>tb { D with nx:=N,ct:=N,bk:=D.nx } σ2 H2):=by
 refine ⟨fun i m σ H=>m=n - i∧i≤n∧Pv i σ H,⟨n,by simp,Nat.zero_le _,h0⟩,?_⟩
 rintro i m σ H ⟨rfl,hi,p⟩
 by_cases hlt:i < n
 · refine .inr ⟨hlt,Pv (i+1),fun σ' H' p'=>⟨n - (i+1),by omega,rfl,hlt,p'⟩,fun x H' y=>?_⟩
   obtain ⟨e,y⟩:=y
   subst e y
   exact hs i σ _ hlt p
 · have e:i=n:=by omega
   subst e
   exact .inl ⟨Nat.le_refl _,hd σ H p⟩
end L2
namespace L2
open PySem PySem.Spec PyProof.Rows
abbrev R2:=V→V→Hp→VK→Prop
def OpR (X:Cx) (f:Value→Value→Sem Value) (r:R2):Prop :=
 ∀ (pins:List (Addr × Obj)) (s:Shared) (σ:St) (H:Hp) (x y:V) (v u:Value) (Q:VK),Inv X pins σ H s→RelV x v→RelV y u→r x y H Q →
  wpAny (model X.prog X.w) X.A (f v u) (EP X pins σ Q) X.xe s
def UnR (X:Cx) (f:Value→Sem Value) (r:V→Hp→VK→Prop):Prop :=
 ∀ (pins:List (Addr × Obj)) (s:Shared) (σ:St) (H:Hp) (x:V) (v:Value) (Q:VK),Inv X pins σ H s→RelV x v→r x H Q →
  wpAny (model X.prog X.w) X.A (f v) (EP X pins σ Q) X.xe s
def CallR (X:Cx) (f:Value) (r:List V→Hp→VK→Prop):Prop :=
 ∀ (pins:List (Addr × Obj)) (s:Shared) (σ:St) (H:Hp) (xs:List V) (us:List Value) (Q:VK),Inv X pins σ H s→Vals xs us→r xs H Q →
  wpAny (model X.prog X.w) X.A (call f us) (EP X pins σ Q) X.xe s
def TruR (X:Cx) (r:V→Hp→(Bool→Hp→Prop)→Prop):Prop :=
 ∀ (pins:List (Addr × Obj)) (s:Shared) (σ:St) (H:Hp) (x:V) (v:Value) (Q:Bool→Hp→Prop),Inv X pins σ H s→RelV x v→r x H Q →
  wpAny (model X.prog X.w) X.A (truthy v) (TP X pins σ Q) X.xe s
def tOp (r:R2) (ta tb:TE):TE:=fun σ H Q=>ta σ H fun x H1=>tb σ H1 fun y H2=>r x y H2 Q
def tUn (r:V→Hp→VK→Prop) (ta:TE):TE:=fun σ H Q=>ta σ H fun x H1=>r x H1 Q
def rI (C:Int→Int→Prop) (g:Int→Int→V):R2:=fun x y H Q=>∃ i j,x=.int i∧y=.int j∧C i j∧Q (g i j) H
def rI0 (g:Int→Int→V):R2:=fun x y H Q=>∃ i j,x=.int i∧y=.int j∧Q (g i j) H
def rU (g:Int→V):V→Hp→VK→Prop:=fun x H Q=>∃ i,x=.int i∧Q (g i) H
section
variable {X:Cx} {a b c:Expr} {ta tb tc:TE} {pos:Pos}
theorem binT (ha:PE X a ta) (hb:PE X b tb) {pins:List (Addr × Obj)} {s:Shared} {σ:St} {H:Hp} {R:V→V→Hp→Prop} (I:Inv X pins σ H s)
 (h:ta σ H fun x H1=>tb σ H1 fun y H2=>R x y H2) {Q:Value→Shared→Prop} {f:Value→Value→Sem Value}
 (hf:∀ v u s2 x y H2,Inv X pins σ H2 s2→RelV x v→RelV y u→R x y H2→wpAny (model X.prog X.w) X.A (f v u) Q X.xe s2) :
 wpAny (model X.prog X.w) X.A (eval a X.env) (fun v s₁=>wpAny (model X.prog X.w) X.A (eval b X.env) (fun u s₂=>wpAny (model X.prog X.w) X.A (f v u) Q X.xe s₂) X.xe s₁) X.xe s:=by
 refine thn (ha pins s σ H _ I h) fun v s1 ⟨x,H1,I1,r1,q1⟩=>?_
 refine thn (hb pins s1 σ H1 _ I1 q1) fun u s2 ⟨y,H2,I2,r2,q2⟩=>?_
 exact hf v u s2 x y H2 I2 r1 r2 q2
theorem pe_op {op:Operator} {r:R2} (ho:OpR X (binaryOp op) r) (ha:PE X a ta) (hb:PE X b tb):PE X (.BinOp a op b pos) (tOp r ta tb):=by
 intro pins s σ H Q I h
 exact wpAny_BinOp (binT ha hb I h fun v u s2 x y H2 I2 rx ry q=>ho pins s2 σ H2 x y v u Q I2 rx ry q)
theorem pe_un {op:UnaryOp} {r:V→Hp→VK→Prop} (ho:UnR X (unaryOp op) r) (ha:PE X a ta):PE X (.UnaryOp op a pos) (tUn r ta):=by
 intro pins s σ H Q I h
 exact UnaryOp_ (thn (ha pins s σ H _ I h) fun v s1 ⟨x,H1,I1,r1,q1⟩=>ho pins s1 σ H1 x v Q I1 r1 q1)
theorem opI {f:Value→Value→Sem Value} {C:Int→Int→Prop} {g:Int→Int→Int}
 (rule:∀ (i j:Int) (t u:Tok) (s:Shared) (Q:Value→Shared→Prop) (E:Value→Shared→Prop),C i j→Q (.int (g i j) s.toks) { s with toks:=s.toks+1 }→wpAny (model X.prog X.w) X.A (f (.int i t) (.int j u)) Q E s) :
 OpR X f (rI C fun i j=>.int (g i j)):=by
 intro pins s σ H x y v u Q I rx ry h
 obtain ⟨i,j,rfl,rfl,hc,q⟩:=h
 obtain ⟨t,rfl⟩:=rx
 obtain ⟨t',rfl⟩:=ry
 exact rule i j t t' s _ _ hc ⟨.int (g i j),H,I.tok _,⟨_,rfl⟩,q⟩
theorem opI0 {f:Value→Value→Sem Value} {g:Int→Int→Int}
 (rule:∀ (i j:Int) (t u:Tok) (s:Shared) (Q:Value→Shared→Prop) (E:Value→Shared→Prop),Q (.int (g i j) s.toks) { s with toks:=s.toks+1 }→wpAny (model X.prog X.w) X.A (f (.int i t) (.int j u)) Q E s) :
 OpR X f (rI0 fun i j=>.int (g i j)):=by
 intro pins s σ H x y v u Q I rx ry h
 obtain ⟨i,j,rfl,rfl,q⟩:=h
 obtain ⟨t,rfl⟩:=rx
 obtain ⟨t',rfl⟩:=ry
 exact rule i j t t' s _ _ ⟨.int (g i j),H,I.tok _,⟨_,rfl⟩,q⟩
theorem opB0 {f:Value→Value→Sem Value} {g:Int→Int→Bool}
 (rule:∀ (i j:Int) (t u:Tok) (s:Shared) (Q:Value→Shared→Prop) (E:Value→Shared→Prop),Q (.bool (g i j)) s→wpAny (model X.prog X.w) X.A (f (.int i t) (.int j u)) Q E s) :
 OpR X f (rI0 fun i j=>.bl (g i j)):=by
 intro pins s σ H x y v u Q I rx ry h
 obtain ⟨i,j,rfl,rfl,q⟩:=h
 obtain ⟨t,rfl⟩:=rx
 obtain ⟨t',rfl⟩:=ry
 exact rule i j t t' s _ _ ⟨.bl (g i j),H,I,rfl,q⟩
def CDiv (i j:Int):Prop:=0 < j∧j < 1073741824
def CMul (i j:Int):Prop:=(-(2 ^ 64) < i∧i < 2 ^ 64)∨(-(2 ^ 64) < j∧j < 2 ^ 64)
theorem CMul.ok {i j:Int} (h:CMul i j):IntMulOk i j:=by
 rcases h with ⟨h1,h2⟩ | ⟨h1,h2⟩
 · exact .of_left (intBits_le_64 h1 h2)
 · exact .of_right (intBits_le_64 h1 h2)
theorem op_add:OpR X (binaryOp .Add) (rI0 fun i j=>.int (i+j)):=opI0 fun _ _ _ _ _ _ _ q=>add_int q
theorem op_sub:OpR X (binaryOp .Sub) (rI0 fun i j=>.int (i - j)):=opI0 fun _ _ _ _ _ _ _ q=>sub_int q
theorem op_mul:OpR X (binaryOp .Mult) (rI CMul fun i j=>.int (i * j)):=opI fun _ _ _ _ _ _ _ hc q=>mul_int q hc.ok
theorem op_fdiv:OpR X (binaryOp .FloorDiv) (rI CDiv fun i j=>.int (i / j)):=opI fun i j _ _ _ _ _ hc q=>by
 have h1:(0:Int) < j:=hc.1
 have h2:j < 1073741824:=hc.2
 exact floordiv_int (by omega) (by rw [Int.fdiv_eq_ediv_of_nonneg i (by omega)]; exact q) (.inl (PyProof.noPylong_small (by omega)))
theorem op_mod:OpR X (binaryOp .Mod) (rI (fun _ j=>0 < j) fun i j=>.int (i % j)):=opI fun i j _ _ _ _ _ hc q=>by
 have h1:(0:Int) < j:=hc
 exact mod_int' (by omega) (by rw [Int.fmod_eq_emod_of_nonneg i (by omega)]; exact q)
theorem iop_add:OpR X (inplaceOp .Add) (rI0 fun i j=>.int (i+j)):=opI0 fun _ _ _ _ _ _ _ q=>iadd_int q
theorem iop_sub:OpR X (inplaceOp .Sub) (rI0 fun i j=>.int (i - j)):=opI0 fun _ _ _ _ _ _ _ q=>isub_int q
theorem iop_mul:OpR X (inplaceOp .Mult) (rI CMul fun i j=>.int (i * j)):=opI fun _ _ _ _ _ _ _ hc q=>imul_int q hc.ok
theorem iop_fdiv:OpR X (inplaceOp .FloorDiv) (rI CDiv fun i j=>.int (i / j)):=opI fun i j _ _ _ _ _ hc q=>by
 have h1:(0:Int) < j:=hc.1
 have h2:j < 1073741824:=hc.2
 exact ifloordiv_int (by omega) (by rw [Int.fdiv_eq_ediv_of_nonneg i (by omega)]; exact q) (.inl (PyProof.noPylong_small (by omega)))
theorem iop_mod:OpR X (inplaceOp .Mod) (rI (fun _ j=>0 < j) fun i j=>.int (i % j)):=opI fun i j _ _ _ _ _ hc q=>by
 have h1:(0:Int) < j:=hc
 exact imod_int (by omega) (by rw [Int.fmod_eq_emod_of_nonneg i (by omega)]; exact q)
theorem unI {f:Value→Sem Value} {g:Int→Int}
 (rule:∀ (i:Int) (t:Tok) (s:Shared) (Q:Value→Shared→Prop) (E:Value→Shared→Prop),Q (.int (g i) s.toks) { s with toks:=s.toks+1 }→wpAny (model X.prog X.w) X.A (f (.int i t)) Q E s) :
 UnR X f (rU fun i=>.int (g i)):=by
 intro pins s σ H x v Q I rx h
 obtain ⟨i,rfl,q⟩:=h
 obtain ⟨t,rfl⟩:=rx
 exact rule i t s _ _ ⟨.int (g i),H,I.tok _,⟨_,rfl⟩,q⟩
theorem un_neg:UnR X (unaryOp .USub) (rU fun i=>.int (-i)):=unI fun _ _ _ _ _ q=>neg_int q
end
def scal:V→V→Bool
 | .non,.non=>true | .non,.int _=>true | .int _,.non=>true | .non,.bl _=>true | .bl _,.non=>true | .non,.str _=>true | .str _,.non=>true
 | .int _,.int _=>true | .bl _,.bl _=>true | .str _,.str _=>true | .byt _,.byt _=>true
 | .int _,.str _=>true | .str _,.int _=>true | .bl _,.str _=>true | .str _,.bl _=>true
 | _,_=>false
def rEq:R2:=fun x y H Q=>scal x y=true∧Q (.bl (decide (x=y))) H
def rNe : R2 := fun x y H Q => scal x y = true ∧ Q (.bl (!decide (x = y))) H
theorem dec_int {i j:Int}:decide (V.int i=V.int j)=(i == j):=by
 rw [Bool.eq_iff_iff]
 simp
theorem dec_bl {i j:Bool}:decide (V.bl i=V.bl j)=(i == j):=by
 rw [Bool.eq_iff_iff]
 simp
theorem dec_str {i j:Str}:decide (V.str i=V.str j)=(i == j):=by
 rw [Bool.eq_iff_iff]
 simp
theorem dec_byt {i j:Array UInt8}:decide (V.byt i=V.byt j)=(i.toList == j.toList):=by
 rw [Bool.eq_iff_iff]
 cases i
 cases j
 simp
section
variable {X:Cx} {a b c:Expr} {ta tb tc:TE} {pos:Pos}
theorem fin_bl {pins:List (Addr × Obj)} {σ:St} {H:Hp} {s:Shared} {Q:VK} {k k':Bool} (I:Inv X pins σ H s) (q:Q (.bl k) H) (e:k=k'):EP X pins σ Q (.bool k') s:=by
 subst e
 exact ⟨.bl k,H,I,rfl,q⟩
theorem op_eq:OpR X (compareOp .Eq) rEq:=by
 intro pins s σ H x y v u Q I rx ry h
 obtain ⟨hs,q⟩:=h
 cases x with
 | non =>
  cases rx
  cases y with
  | non=>cases ry; exact PySem.EqNone.eq_none_none (fin_bl I q (by simp))
  | bl j=>cases ry; exact PySem.EqNone.eq_none_bool (fin_bl I q (by simp))
  | int j=>obtain ⟨t',rfl⟩:=ry; exact PySem.EqNone.eq_none_int (fin_bl I q (by simp))
  | str j=>obtain ⟨t',rfl⟩:=ry; exact PySem.EqNone.eq_none_str (fin_bl I q (by simp))
  | _=>exact absurd (show false=true from hs) Bool.false_ne_true
 | bl i =>
  cases rx
  cases y with
  | non=>cases ry; exact PySem.EqNone.eq_bool_none (fin_bl I q (by simp))
  | bl j=>cases ry; exact eq_bool (fin_bl I q dec_bl)
  | str j=>obtain ⟨t',rfl⟩:=ry; exact PySem.EqMixed.eq_bool_str (fin_bl I q (by simp))
  | _=>exact absurd (show false=true from hs) Bool.false_ne_true
 | int i =>
  obtain ⟨t,rfl⟩:=rx
  cases y with
  | non=>cases ry; exact PySem.EqNone.eq_int_none (fin_bl I q (by simp))
  | int j=>obtain ⟨t',rfl⟩:=ry; exact eq_int (fin_bl I q dec_int)
  | str j=>obtain ⟨t',rfl⟩:=ry; exact PySem.EqMixed.eq_int_str (fin_bl I q (by simp))
  | _=>exact absurd (show false=true from hs) Bool.false_ne_true
 | str i =>
  obtain ⟨t,rfl⟩:=rx
  cases y with
  | non=>cases ry; exact PySem.EqNone.eq_str_none (fin_bl I q (by simp))
  | bl j=>cases ry; exact PySem.EqMixed.eq_str_bool (fin_bl I q (by simp))
  | int j=>obtain ⟨t',rfl⟩:=ry; exact PySem.EqMixed.eq_str_int (fin_bl I q (by simp))
  | str j=>obtain ⟨t',rfl⟩:=ry; exact eq_str (fin_bl I q dec_str)
  | _=>exact absurd (show false=true from hs) Bool.false_ne_true
 | byt i =>
  obtain ⟨t,rfl⟩:=rx
  cases y with
  | byt j=>obtain ⟨t',rfl⟩:=ry; exact PySem.W.eq_bytes (fin_bl I q dec_byt)
  | _=>exact absurd (show false=true from hs) Bool.false_ne_true
 | _=>cases y <;> exact absurd (show false=true from hs) Bool.false_ne_true
theorem op_ne:OpR X (compareOp .NotEq) rNe:=by
 intro pins s σ H x y v u Q I rx ry h
 obtain ⟨hs,q⟩:=h
 cases x with
 | non =>
  cases rx
  cases y with
  | non=>cases ry; exact PySem.EqNone.ne_none_none (fin_bl I q (by simp))
  | bl j=>cases ry; exact PySem.EqNone.ne_none_bool (fin_bl I q (by simp))
  | int j=>obtain ⟨t',rfl⟩:=ry; exact PySem.EqNone.ne_none_int (fin_bl I q (by simp))
  | str j=>obtain ⟨t',rfl⟩:=ry; exact PySem.EqNone.ne_none_str (fin_bl I q (by simp))
  | _=>exact absurd (show false=true from hs) Bool.false_ne_true
 | bl i =>
  cases rx
  cases y with
  | non=>cases ry; exact PySem.EqNone.ne_bool_none (fin_bl I q (by simp))
  | bl j=>cases ry; exact ne_bool (fin_bl I q (congrArg not dec_bl))
  | str j=>obtain ⟨t',rfl⟩:=ry; exact PySem.EqMixed.ne_bool_str (fin_bl I q (by simp))
  | _=>exact absurd (show false=true from hs) Bool.false_ne_true
 | int i =>
  obtain ⟨t,rfl⟩:=rx
  cases y with
  | non=>cases ry; exact PySem.EqNone.ne_int_none (fin_bl I q (by simp))
  | int j=>obtain ⟨t',rfl⟩:=ry; exact ne_int (fin_bl I q (congrArg not dec_int))
  | str j=>obtain ⟨t',rfl⟩:=ry; exact PySem.EqMixed.ne_int_str (fin_bl I q (by simp))
  | _=>exact absurd (show false=true from hs) Bool.false_ne_true
 | str i =>
  obtain ⟨t,rfl⟩:=rx
  cases y with
  | non=>cases ry; exact PySem.EqNone.ne_str_none (fin_bl I q (by simp))
  | bl j=>cases ry; exact PySem.EqMixed.ne_str_bool (fin_bl I q (by simp))
  | int j=>obtain ⟨t',rfl⟩:=ry; exact PySem.EqMixed.ne_str_int (fin_bl I q (by simp))
  | str j=>obtain ⟨t',rfl⟩:=ry; exact ne_str (fin_bl I q (congrArg not dec_str))
  | _=>exact absurd (show false=true from hs) Bool.false_ne_true
 | byt i =>
  obtain ⟨t,rfl⟩:=rx
  cases y with
  | byt j=>obtain ⟨t',rfl⟩:=ry; exact PySem.W.ne_bytes (fin_bl I q (congrArg not dec_byt))
  | _=>exact absurd (show false=true from hs) Bool.false_ne_true
 | _=>cases y <;> exact absurd (show false=true from hs) Bool.false_ne_true
theorem op_lt:OpR X (compareOp .Lt) (rI0 fun i j=>.bl (decide (i < j))):=opB0 fun _ _ _ _ _ _ _ q=>lt_int q
theorem op_le:OpR X (compareOp .LtE) (rI0 fun i j=>.bl (decide (i≤j))):=opB0 fun _ _ _ _ _ _ _ q=>le_int q
theorem op_gt:OpR X (compareOp .Gt) (rI0 fun i j=>.bl (decide (j < i))):=opB0 fun _ _ _ _ _ _ _ q=>gt_int q
theorem op_isN:OpR X (compareOp .Is) (fun x y H Q=>y=.non∧Q (.bl (decide (x=.non))) H):=by
 intro pins s σ H x y v u Q I rx ry h
 obtain ⟨rfl,q⟩:=h
 cases ry
 refine is_none_gen (fin_bl I q ?_)
 cases x <;> first
  | (cases rx; rfl)
  | (obtain ⟨t,rfl⟩:=rx; rfl)
theorem op_notN : OpR X (compareOp .IsNot) (fun x y H Q => y = .non ∧ Q (.bl (!decide (x = .non))) H) := by
 intro pins s σ H x y v u Q I rx ry h
 obtain ⟨rfl,q⟩:=h
 cases ry
 refine isnot_none_gen (fin_bl I q ?_)
 cases x <;> first
  | (cases rx; rfl)
  | (obtain ⟨t,rfl⟩:=rx; rfl)
theorem nomark (b:Expr) {op:CmpOp} (h:op ≠ .In:=by decide) (h2:op ≠ .NotIn:=by decide):behindInMarks op b=false:=by
 have e1:(op == CmpOp.In)=false:=by cases op <;> first | rfl | exact absurd rfl h
 have e2:(op == CmpOp.NotIn)=false:=by cases op <;> first | rfl | exact absurd rfl h2
 cases b <;> simp [behindInMarks,e1,e2]
theorem pe_cmpR {op:CmpOp} {r:R2} (ho:OpR X (compareOp op) r) (ha:PE X a ta) (hb:PE X b tb) (hm:behindInMarks op b=false):PE X (.Compare a [op] [b] pos) (tOp r ta tb):=by
 intro pins s σ H Q I h
 exact wpAny_Compare1 (binT ha hb I h fun v u s2 x y H2 I2 rx ry q=>ho pins s2 σ H2 x y v u Q I2 rx ry q) hm
def tTest (t:TE):TT:=fun σ H Q=>t σ H fun x H'=>∃ k,x=.bl k∧Q k H'
theorem pt_cmpR {op:CmpOp} {r:R2} (ho:OpR X (compareOp op) r) (ha:PE X a ta) (hb:PE X b tb) (hm:behindInMarks op b=false):PT X (.Compare a [op] [b] pos) (tTest (tOp r ta tb)):=by
 intro pins s σ H Q I h
 refine wpAny_isTrue_Compare1 (thn (ha pins s σ H _ I h) fun v s1 ⟨x,H1,I1,r1,q1⟩=>thn (hb pins s1 σ H1 _ I1 q1) fun u s2 ⟨y,H2,I2,r2,q2⟩ =>
  thn (ho pins s2 σ H2 x y v u _ I2 r1 r2 q2) fun c s3 ⟨z,H3,I3,r3,k,e,q3⟩=>?_) hm
 subst e
 cases r3
 exact wpAny_truthy_bool ⟨H3,I3,q3⟩
def tChain (r r':R2) (ta tb tc:TE):TE:=fun σ H Q=>ta σ H fun x H1=>tb σ H1 fun y H2=>r x y H2 fun z H3=>∃ k,z=.bl k ∧
 (if k=true then tc σ H3 fun w' H4=>r' y w' H4 Q else Q (.bl false) H3)
theorem pe_chain {op op':CmpOp} {r r':R2} (ho:OpR X (compareOp op) r) (ho':OpR X (compareOp op') r') (ha:PE X a ta) (hb:PE X b tb) (hc:PE X c tc)
 (hm:lastMarks [op,op'] [b,c]=false:=by with_unfolding_all rfl):PE X (.Compare a [op,op'] [b,c] pos) (tChain r r' ta tb tc):=by
 intro pins s σ H Q I h
 refine Compare_chain (thn (ha pins s σ H _ I h) fun v s1 ⟨x,H1,I1,r1,q1⟩=>chain_link (thn (hb pins s1 σ H1 _ I1 q1) fun u s2 ⟨y,H2,I2,r2,q2⟩ =>
  thn (ho pins s2 σ H2 x y v u _ I2 r1 r2 q2) fun d s3 ⟨z,H3,I3,r3,k,e,q3⟩=>?_)) hm
 subst e
 cases r3
 refine wpAny_truthy_bool ?_
 cases k with
 | false=>exact ite_ff ⟨.bl false,H3,I3,rfl,q3⟩
 | true=>exact ite_tt (chain_last (thn (hc pins s3 σ H3 _ I3 q3) fun w' s4 ⟨z',H4,I4,r4,q4⟩=>ho' pins s4 σ H4 y z' u w' Q I4 r2 r4 q4))
theorem pt_chain {op op':CmpOp} {r r':R2} (ho:OpR X (compareOp op) r) (ho':OpR X (compareOp op') r') (ha:PE X a ta) (hb:PE X b tb) (hc:PE X c tc)
 (hm:lastMarks [op,op'] [b,c]=false:=by with_unfolding_all rfl):PT X (.Compare a [op,op'] [b,c] pos) (tTest (tChain r r' ta tb tc)):=by
 intro pins s σ H Q I h
 refine isTrue_chain (thn (ha pins s σ H _ I h) fun v s1 ⟨x,H1,I1,r1,q1⟩=>test_link (thn (hb pins s1 σ H1 _ I1 q1) fun u s2 ⟨y,H2,I2,r2,q2⟩ =>
  thn (ho pins s2 σ H2 x y v u _ I2 r1 r2 q2) fun d s3 ⟨z,H3,I3,r3,k,e,q3⟩=>?_)) hm
 subst e
 cases r3
 refine wpAny_truthy_bool ?_
 cases k with
 | false =>
  obtain ⟨k',e',q'⟩:=q3
  cases e'
  exact ite_ff ⟨H3,I3,q'⟩
 | true =>
  refine ite_tt (test_last (thn (hc pins s3 σ H3 _ I3 q3) fun w' s4 ⟨z',H4,I4,r4,q4⟩=>thn (ho' pins s4 σ H4 y z' u w' _ I4 r2 r4 q4) fun d' s5 ⟨z2,H5,I5,r5,k2,e2,q5⟩=>?_))
  subst e2
  cases r5
  exact wpAny_truthy_bool ⟨H5,I5,q5⟩
def TruV (K:PySem.W.Frag) (x:V) (H:Hp) (k:Bool):Prop :=
 match x with
 | .non=>k=false
 | .bl b=>k=b
 | .int i => k = (i != 0)
 | .str y => y.length ≤ sizeLine ∧ k = ((y.length : Int) != 0)
 | .byt y => y.size ≤ sizeLine ∧ k = ((y.size : Int) != 0)
 | .ref p => (∃ xs, SqL K H p xs ∧ k = !xs.isEmpty) ∨ (∃ xs, SqT K H p xs ∧ k = !xs.isEmpty) ∨ ∃ kvs, H p = some (.dK kvs) ∧ k = !kvs.isEmpty
 | _=>False
theorem isEmpty_kv {κ : Type} {kvs : List (κ × V)} {vs : List (κ × Value)} (r : KV kvs vs) : (!vs.isEmpty) = !kvs.isEmpty := by
 cases r <;> rfl
theorem isEmpty_of {xs : List V} {its : List Value} (r : Vals xs its) : (!its.toArray.isEmpty) = !xs.isEmpty := by
 cases r <;> simp
theorem line63:(sizeLine:Nat) < 2 ^ 63:=by rw [sizeLine_eq]; decide
theorem tru_ok:TruR X (fun x H Q=>∃ k,TruV X.K x H k∧Q k H):=by
 intro pins s σ H x v Q I rx h
 obtain ⟨k,e,q⟩:=h
 have hl:=line63
 have hs:sizeLine=16777216:=sizeLine_eq
 cases x with
 | non =>
  cases rx
  have e':k=false:=e
  subst e'
  exact truthy_none ⟨H,I,q⟩
 | bl b =>
  cases rx
  have e':k=b:=e
  subst e'
  exact wpAny_truthy_bool ⟨H,I,q⟩
 | int i =>
  obtain ⟨t,rfl⟩:=rx
  have e' : k = (i != 0) := e
  subst e'
  exact PySem.P.truthy_int ⟨H,I,q⟩
 | str y =>
  obtain ⟨t,rfl⟩:=rx
  obtain ⟨hy, e'⟩ : y.length ≤ sizeLine ∧ k = ((y.length : Int) != 0) := e
  subst e'
  exact PySem.P.truthy_str (by omega) ⟨H,I.tok _,q⟩
 | byt y =>
  obtain ⟨t,rfl⟩:=rx
  obtain ⟨hy, e'⟩ : y.size ≤ sizeLine ∧ k = ((y.size : Int) != 0) := e
  subst e'
  exact PySem.W.truthy_bytes (by omega) ⟨H,I.tok _,q⟩
 | ref p =>
  cases rx
  have e' : (∃ xs, SqL X.K H p xs ∧ k = !xs.isEmpty) ∨ (∃ xs, SqT X.K H p xs ∧ k = !xs.isEmpty) ∨ ∃ kvs, H p = some (.dK kvs) ∧ k = !kvs.isEmpty := e
  rcases e' with ⟨xs,hx,e'⟩ | ⟨xs,hx,e'⟩ | ⟨kvs,hx,e'⟩
  · subst e'
    obtain ⟨its,r,pl,hz⟩:=I.list hx
    have hlen:=r.length
    exact wpAny_truthy_list pl.isList (by simp only [List.size_toArray]; omega) ⟨H,I.tok _,by rw [isEmpty_of r]; exact q⟩
  · subst e'
    obtain ⟨its,r,pl,hz⟩:=I.tuple hx
    have hlen:=r.length
    exact truthy_tuple pl (by simp only [List.size_toArray]; omega) ⟨H,I.tok _,by rw [isEmpty_of r]; exact q⟩
  · subst e'
    obtain ⟨hz,hS,vs,r,m⟩:kvs.length≤sizeLine∧(p == sysModules)=false∧∃ vs,KV kvs vs∧s.heap.DictOf (mixKind X.prog X.w) p vs:=I.hok p _ hx
    have hlen:kvs.length=vs.length:=Paired.length r
    exact wpAny_truthy_dict hS m (by omega) ⟨H,I.tok _,by rw [isEmpty_kv r]; exact q⟩
 | _=>exact (show False from e).elim
theorem pt_truth (ha:PE X a ta) (he:∀ whole,isTrue a X.env whole=(do let v ← whole; standAt a.pos; holding [v] (truthy v))) :
 PT X a (fun σ H Q=>ta σ H fun x H'=>∃ k,TruV X.K x H' k∧Q k H'):=by
 intro pins s σ H Q I h
 exact isTrue_plain (thn (ha pins s σ H _ I h) fun v s1 ⟨x,H1,I1,r1,q1⟩=>tru_ok pins s1 σ H1 x v Q I1 r1 q1) (he _)
theorem vals1 {x:V} {us:List Value} (r:Vals [x] us):∃ u,us=[u]∧RelV x u:=by
 cases r with
 | cons r1 r2=>cases r2; exact ⟨_,rfl,r1⟩
theorem vals2 {x y:V} {us:List Value} (r:Vals [x,y] us):∃ u w',us=[u,w']∧RelV x u∧RelV y w':=by
 cases r with
 | cons r1 r2 =>
  cases r2 with
  | cons r3 r4=>cases r4; exact ⟨_,_,rfl,r1,r3⟩
def LenV (K:PySem.W.Frag) (x:V) (H:Hp) (n:Nat):Prop :=
 match x with
 | .str y=>y.length≤sizeLine∧n=y.length
 | .byt y=>y.size≤sizeLine∧n=y.size
 | .ref p=>(∃ xs,SqL K H p xs∧n=xs.length)∨∃ xs,SqT K H p xs∧n=xs.length
 | _=>False
theorem call_len:CallR X (.builtin "len") (fun xs H Q=>∃ x n,xs=[x]∧LenV X.K x H n∧Q (.int n) H):=by
 intro pins s σ H xs us Q I r h
 obtain ⟨x,n,rfl,e,q⟩:=h
 obtain ⟨u,rfl,rx⟩:=vals1 r
 have hl:=line63
 have hs:sizeLine=16777216:=sizeLine_eq
 cases x with
 | str y =>
  obtain ⟨t,rfl⟩:=rx
  obtain ⟨hy,e'⟩:y.length≤sizeLine∧n=y.length:=e
  subst e'
  exact len_str (by omega) ⟨.int _,H,I.tok _,⟨_,rfl⟩,q⟩
 | byt y =>
  obtain ⟨t,rfl⟩:=rx
  obtain ⟨hy,e'⟩:y.size≤sizeLine∧n=y.size:=e
  subst e'
  exact PySem.W.len_bytes (by omega) ⟨.int _,H,I.tok _,⟨_,rfl⟩,q⟩
 | ref p =>
  cases rx
  have e':(∃ xs,SqL X.K H p xs∧n=xs.length)∨∃ xs,SqT X.K H p xs∧n=xs.length:=e
  rcases e' with ⟨xs,hx,e'⟩ | ⟨xs,hx,e'⟩
  · subst e'
    obtain ⟨its,r',pl,hz⟩:=I.list hx
    have hlen:=r'.length
    exact Calls.call_len_list pl.isList (by simp only [List.size_toArray]; omega) ⟨.int xs.length,H,I.tok _,⟨_,by simp only [List.size_toArray]; rw [hlen]⟩,q⟩
  · subst e'
    obtain ⟨its,r',pl,hz⟩:=I.tuple hx
    have hlen:=r'.length
    exact len_tuple pl (by simp only [List.size_toArray]; omega) ⟨.int xs.length,H,I.tok _,⟨_,by simp only [List.size_toArray]; rw [hlen]⟩,q⟩
 | _=>exact (show False from e).elim
end
end L2
namespace L2
open PySem PySem.Spec PyProof.Rows
structure ObjM (h:Heap) (x dx C:Addr) (mA:Str→Option Value):Prop where
 obj:h.get? x=some (PySem.W.instObj C dx)
 ns:h.Ns1 dx mA
 ne:dx ≠ x
theorem lookIn_ns {h:Heap} {dx:Addr} {mA:Str→Option Value} (n:h.Ns1 dx mA):∃ od,h.get? dx=some od∧∀ name,PySem.W.lookIn name od=some (mA name):=by
 obtain ⟨o,es,ep,ho,hd,hk,_,hm⟩:=n
 refine ⟨o,ho,fun name=>?_⟩
 have e:=hm name
 unfold nsFind findBy at e
 rw [← Array.find?_toList] at e
 unfold PySem.W.lookIn
 rw [hd]
 dsimp only
 split
 · rename_i y q
   rw [q] at e
   exact congrArg some e
 · rename_i q
   rw [q] at e
   have a:es.toList.any (·.refKey)=false:=by
    rw [List.any_eq_false]
    intro y hy
    obtain ⟨z,t,hkey⟩:=hk y (Array.mem_toList_iff.mp hy)
    simp [DictEntry.refKey,hkey]
   have a':¬ es.toList.any (·.refKey)=true:=by rw [a]; exact Bool.false_ne_true
   rw [if_neg a']
   exact congrArg some e
theorem ObjM.look {h:Heap} {x dx C:Addr} {mA:Str→Option Value} (I:ObjM h x dx C mA):∃ od,PySem.W.InstAt h x (PySem.W.instObj C dx) C (some od)∧∀ name,PySem.W.lookIn name od=some (mA name) :=
 let ⟨od,ho,hl⟩:=lookIn_ns I.ns
 ⟨od,⟨I.obj,rfl,rfl,ho⟩,hl⟩
section
variable {prog:Program} {w:World} {A:Around} {E:Value→Shared→Prop} {s:Shared} {K:PySem.W.Frag} {x dx C f:Addr} {mA:Str→Option Value} {name:Str} {v:Value}
theorem get_map {expr:Bool} {Q:Value→Shared→Prop} (X:K.In s.heap) (I:ObjM s.heap x dx C mA) (hg:PySem.W.plainGet K C name=true) (hh:PySem.W.hasDictIn K C=true)
 (ha:PySem.W.findIn K (.ref C) name=some none) (hv:mA name=some v) (hv':PySem.W.handedIn v=true) (h:Q v { s with toks:=s.toks+1 }) :
 wpAny (model prog w) A (getAttr (.ref x) name expr) Q E s:=by
 obtain ⟨od,J,hl⟩:=I.look
 exact PySem.W.get_value X J (PySem.W.plainGet_of hg).1 (PySem.W.findObj_own hh ha rfl (by rw [hl,hv])) hv' h
theorem get_meth {pl:Sem Bool} {Q:Value × List Value→Shared→Prop} (X:K.In s.heap) (I:ObjM s.heap x dx C mA) (hg:PySem.W.plainGet K C name=true)
 (hf:PySem.W.findIn K (.ref C) name=some (some (.ref f))) (ht:PySem.W.isFn K (.ref f)=true) (hv:mA name=none) (h:Q (.ref f,[.ref x]) s) :
 wpAny (model prog w) A (getMethod (.ref x) name pl) Q E s:=by
 obtain ⟨od,J,hl⟩:=I.look
 exact PySem.W.method_fn X J (PySem.W.plainGet_of hg).1 (PySem.W.plainGet_of hg).2 hf (beq_iff_eq.mp ht) (by show (PySem.W.lookIn name od).map (·.isSome)=some false; rw [hl,hv]; rfl) h
theorem set_map {ns:List Str} {Q:Unit→Shared→Prop} (X:K.In s.heap) (I:ObjM s.heap x dx C mA)
 (hs:PySem.W.findIn K (.ref C) "__setattr__"=some (some (.builtin "object.__setattr__"))) (hp:PySem.W.plainOver K C=true) (ht:PySem.W.takerIn K C name=some none) (hh:PySem.W.hasDictIn K C=true)
 (hw:PySem.Within mA ns) (hsz:ns.length≤sizeLine)
 (h:∀ h',ObjM h' x dx C (fun y=>if y=name then some v else mA y)→Heap.SameBut dx s.heap h'→Q () { s with heap:=h',toks:=s.toks+2 }) :
 wpAny (model prog w) A (setAttr (.ref x) name v) Q E s:=by
 obtain ⟨od,J,hl⟩:=I.look
 refine PySem.W.set_plain X J hs (PySem.W.osa_open (s:={ s with toks:=s.toks+1 }) (r:=none) X J hp ht fun b=>?_)
 obtain ⟨cd,hc,hd'⟩:=PySem.W.any_some hh
 have hx:s.heap.get? x=some ⟨.ref C,some dx,.plain,#[]⟩:=I.obj
 refine wpAny_bind (wpAny_pure (wpAny_bind (wpAny_bind (wpAny_loadPart hx (wpAny_bind (PySem.W.Looks.here (s:={ s with toks:=s.toks+1 }) (PySem.W.looks_clsIn X hc) ?_))))))
 rw [hd']
 refine wpAny_pure (a:=some dx) (wpAny_bind (wpAny_pure (wpAny_bind ?_)))
 refine wpAny_nsSet1 (s:={ s with toks:=s.toks+1 }) I.ns fun h' hn2 hs2=>?_
 obtain ⟨oD,esD,epD,hoD,hdD,hcD⟩:=hn2.count (PySem.Within.cons name v hw)
 refine wpAny_bind (wpAny_lookBehind hoD (by rw [hdD]; exact pastItsLine_dict (Nat.le_trans hcD (by rw [List.length_cons]; omega))) ?_)
 exact wpAny_pure (h _ ⟨(hs2.2 _ (Ne.symm I.ne)).trans I.obj,hn2,I.ne⟩ hs2)
theorem make_map {R:Result→Shared→Prop} {vs:List Value} {kw:List (Str × Value)} (X:K.In s.heap) (hm:PySem.W.makesIn K C=true)
 (hi:PySem.W.findIn K (.ref C) "__init__"=some (some (.ref f))) (hf:PySem.W.typeIn K (.ref f)=some (.type "function"))
 (h:codeAny (model prog w) (A.under (.builtin "type.__call__" ⟨.ref C :: vs,kw⟩)) (.call (.ref f) ⟨.ref (s.heap.objs.size+1) :: vs,kw⟩) (PySem.W.InitBack (s.heap.objs.size+1) R)
  { s with heap:=(s.heap.push PySem.W.emptyDict).push (PySem.W.instObj C s.heap.objs.size) }) :
 codeAny (model prog w) A (.call (.ref C) ⟨vs,kw⟩) R s:=by
 obtain ⟨hh,g,d,t,os⟩:=s
 exact PySem.W.make_core (PySem.W.makes_of X hm) (PySem.W.looks_findIn X hi) (fun self=>PySem.W.bind_fn X self hf) (.inl rfl) h
end
def putF (f:Str) (v:V):List (Str × V)→List (Str × V)
 | []=>[(f,v)]
 | (g,x) :: r=>if g=f then (g,v) :: r else (g,x) :: putF f v r
theorem lookup_putF (f g:Str) (v:V):∀ fs:List (Str × V),(putF f v fs).lookup g=if g=f then some v else fs.lookup g
 | []=>by
  show List.lookup g [(f,v)]=_
  by_cases h:g=f
  · have hb:(g == f)=true:=beq_iff_eq.mpr h
    simp only [List.lookup,hb,if_pos h]
  · have hb:(g == f)=false:=beq_eq_false_iff_ne.mpr h
    simp only [List.lookup,hb,if_neg h]
 | (k,x) :: r=>by
  have ih:=lookup_putF f g v r
  rw [show putF f v ((k,x) :: r)=(if k=f then (k,v) :: r else (k,x) :: putF f v r) from rfl]
  by_cases hk:k=f
  · rw [if_pos hk]
    by_cases h:g=k
    · have hb:(g == k)=true:=beq_iff_eq.mpr h
      simp only [List.lookup,hb,if_pos (h.trans hk)]
    · have hb:(g == k)=false:=beq_eq_false_iff_ne.mpr h
      simp only [List.lookup,hb,if_neg (fun e:g=f=>h (e.trans hk.symm))]
  · rw [if_neg hk]
    by_cases h:g=k
    · have hb:(g == k)=true:=beq_iff_eq.mpr h
      simp only [List.lookup,hb,if_neg (fun e:g=f=>hk (h.symm.trans e))]
    · have hb:(g == k)=false:=beq_eq_false_iff_ne.mpr h
      simp only [List.lookup,hb]
      exact ih
theorem keys_putF (f:Str) (v:V):∀ fs:List (Str × V),f∈(putF f v fs).map (·.1)∧∀ g,g∈fs.map (·.1)→g∈(putF f v fs).map (·.1)
 | []=>⟨by simp [putF],fun g h=>by simp at h⟩
 | (k,x) :: r=>by
  obtain ⟨i1,i2⟩:=keys_putF f v r
  rw [show putF f v ((k,x) :: r)=(if k=f then (k,v) :: r else (k,x) :: putF f v r) from rfl]
  by_cases hk:k=f
  · rw [if_pos hk]
    subst hk
    exact ⟨by simp,fun g h=>by simpa using h⟩
  · rw [if_neg hk]
    refine ⟨?_,fun g h=>?_⟩
    · rw [List.map_cons]
      exact List.mem_cons_of_mem _ i1
    · rw [List.map_cons] at h ⊢
      rcases List.mem_cons.mp h with e | e
      · exact List.mem_cons.mpr (.inl e)
      · exact List.mem_cons_of_mem _ (i2 g e)
theorem length_putF (f:Str) (v:V):∀ fs:List (Str × V),(putF f v fs).length≤fs.length+1
 | []=>by simp [putF]
 | (k,x) :: r=>by
  have ih:=length_putF f v r
  rw [show putF f v ((k,x) :: r)=(if k=f then (k,v) :: r else (k,x) :: putF f v r) from rfl]
  by_cases hk:k=f
  · rw [if_pos hk,List.length_cons,List.length_cons]; omega
  · rw [if_neg hk,List.length_cons,List.length_cons]; omega
theorem RelO.some_of {v:V} {o:Option Value} (r:RelO (some v) o):∃ u,o=some u∧RelV v u:=by
 cases o with
 | none=>exact (show False from r).elim
 | some u=>exact ⟨u,rfl,r⟩
theorem RelO.none_of {o:Option Value} (r:RelO none o):o=none:=by
 cases o with
 | none=>rfl
 | some u=>exact (show False from r).elim
theorem handed_of {v:V} {u:Value} (r:RelV v u):PySem.W.handedIn u=true:=by
 cases v with
 | non=>cases (show u=Value.none from r); rfl
 | bl b=>cases (show u=Value.bool b from r); rfl
 | int i=>obtain ⟨t,e⟩:=(show ∃ t,u=Value.int i t from r); cases e; rfl
 | str x=>obtain ⟨t,e⟩:=(show ∃ t,u=Value.str x t from r); cases e; rfl
 | byt b=>obtain ⟨t,e⟩:=(show ∃ t,u=Value.bytes b t from r); cases e; rfl
 | flt b=>obtain ⟨t,e⟩:=(show ∃ t,u=Value.float b t from r); cases e; rfl
 | ref a=>cases (show u=Value.ref a from r); rfl
 | ty n=>cases (show u=Value.type n from r); rfl
section
variable {P:Program} {w:World} {H H':Hp} {h h':Heap} {a C dx:Addr} {fs fs':List (Str × V)}
theorem ins_get (hok:HOk P w H h) (e:H a=some (.ins C dx fs)):∃ mA,ObjM h a dx C mA∧(∀ f,RelO (fs.lookup f) (mA f))∧PySem.Within mA (fs.map (·.1))∧fs.length≤1000∧H dx=some (.own a):=by
 obtain ⟨d,z,ne,ob,mA,n,r,q⟩:=(show ObjOk P w H h a (.ins C dx fs) from hok a _ e)
 exact ⟨mA,⟨ob,n,ne⟩,r,q,z,d⟩
end
structure Cls (K:PySem.W.Frag) (C:Addr):Prop where
 pg:PySem.W.plainGet K C Str.empty=true
 hd:PySem.W.hasDictIn K C=true
 po:PySem.W.plainOver K C=true
 sa:PySem.W.findIn K (.ref C) "__setattr__"=some (some (.builtin "object.__setattr__"))
theorem Cls.get {K:PySem.W.Frag} {C:Addr} (c:Cls K C) (f:Str):PySem.W.plainGet K C f=true:=c.pg
def NoAttr (K:PySem.W.Frag) (C:Addr) (f:Str):Prop:=PySem.W.findIn K (.ref C) f=some none
theorem NoAttr.taker {K:PySem.W.Frag} {C:Addr} {f:Str} (n:NoAttr K C f):PySem.W.takerIn K C f=some none:=by
 unfold PySem.W.takerIn
 rw [show PySem.W.findIn K (.ref C) f=some none from n]
 rfl
structure Meth (K:PySem.W.Frag) (C:Addr) (m:Str) (f:Addr):Prop where
 at_:PySem.W.findIn K (.ref C) m=some (some (.ref f))
 fn:PySem.W.isFn K (.ref f)=true
 kp:PySem.W.keepIn K (.ref f)=true
section
variable {X:Cx} {pins:List (Addr × Obj)} {σ:St} {H:Hp} {s:Shared} {a C dx:Addr} {fs:List (Str × V)} {f:Str} {v:V} {A:Around} {E:Value→Shared→Prop}
theorem getattr_ok {b:Bool} {Q:Value→Shared→Prop} (I:Inv X pins σ H s) (e:H a=some (.ins C dx fs)) (c:Cls X.K C) (n:NoAttr X.K C f) (l:fs.lookup f=some v)
 (h:∀ u s',Inv X pins σ H s'→RelV v u→Q u s'):wpAny (model X.prog X.w) A (getAttr (.ref a) f b) Q E s:=by
 obtain ⟨mA,O,r,_,_,_⟩:=ins_get I.hok e
 obtain ⟨u,hu,ru⟩:=RelO.some_of (v:=v) (o:=mA f) (by rw [← l]; exact r f)
 exact get_map I.kIn O (c.get f) c.hd n hu (handed_of ru) (h u _ (I.tok _) ru)
theorem getmeth_ok {m:Str} {g:Addr} {pl:Sem Bool} {Q:Value × List Value→Shared→Prop} (I:Inv X pins σ H s) (e:H a=some (.ins C dx fs)) (c:Cls X.K C) (k:Meth X.K C m g) (l:fs.lookup m=none)
 (h:Q (.ref g,[.ref a]) s):wpAny (model X.prog X.w) A (getMethod (.ref a) m pl) Q E s:=by
 obtain ⟨mA,O,r,_,_,_⟩:=ins_get I.hok e
 have hn:mA m=none:=RelO.none_of (by rw [← l]; exact r m)
 exact get_meth I.kIn O (c.get m) k.at_ k.fn hn h
theorem setattr_ok {y:V} {u:Value} {Q:Unit→Shared→Prop} (I:Inv X pins σ H s) (e:H a=some (.ins C dx fs)) (c:Cls X.K C) (n:NoAttr X.K C f) (hl:fs.length < 1000) (ry:RelV y u)
 (h:∀ s',Inv X pins σ (upd H a (.ins C dx (putF f y fs))) s'→Q () s'):wpAny (model X.prog X.w) A (setAttr (.ref a) f u) Q E s:=by
 obtain ⟨mA,O,r,wi,_,ho⟩:=ins_get I.hok e
 have hz:(fs.map (·.1)).length≤sizeLine:=by rw [List.length_map,sizeLine_eq]; omega
 refine set_map I.kIn O c.sa c.po n.taker c.hd wi hz fun h' O' sb=>h _ ?_
 have hd:∃ o,h'.get? dx=some o:=let ⟨o,_,_,e',_⟩:=O'.ns; ⟨o,e'⟩
 refine I.write (x:=a) (e:=dx) (by rw [e]; exact True.intro) (.inr ho) (fun b q hb z=>(sb.2 b hb).trans z) hd ?_
 refine ⟨by rw [upd_ne O.ne]; exact ho,?_,O.ne,O'.obj,_,O'.ns,fun g=>?_,fun g hg=>?_⟩
 · have:=length_putF f y fs; omega
 · show RelO ((putF f y fs).lookup g) (if g=f then some u else mA g)
   rw [lookup_putF]
   by_cases q:g=f
   · rw [if_pos q,if_pos q]; exact ry
   · rw [if_neg q,if_neg q]; exact r g
 · by_cases q:g=f
   · rw [q]; exact (keys_putF f y fs).1
   · refine (keys_putF f y fs).2 g (wi g fun z=>hg ?_)
     show (if g=f then some u else mA g)=none
     rw [if_neg q]; exact z
theorem Inv.made (I:Inv X pins σ H s):Inv X pins σ (upd (upd H s.heap.objs.size (.own (s.heap.objs.size+1))) (s.heap.objs.size+1) (.ins C s.heap.objs.size []))
 { s with heap:=(s.heap.push PySem.W.emptyDict).push (PySem.W.instObj C s.heap.objs.size) }:=by
 have e1:(s.heap.push PySem.W.emptyDict).get? s.heap.objs.size=some PySem.W.emptyDict:=Heap.get?_push_size s.heap rfl
 have e2:((s.heap.push PySem.W.emptyDict).push (PySem.W.instObj C s.heap.objs.size)).get? (s.heap.objs.size+1)=some (PySem.W.instObj C s.heap.objs.size):=by
  have:=Heap.get?_push_size (s.heap.push PySem.W.emptyDict) (o:=PySem.W.instObj C s.heap.objs.size) rfl
  rwa [Heap.size_push] at this
 have e3:(s.heap.push PySem.W.emptyDict).Ns s.heap.objs.size (fun _=>none):=⟨PySem.W.emptyDict,#[],_,e1,rfl,(fun e he=>absurd he (by simp)),fun _=>rfl⟩
 have I1:=I.laid (a:=s.heap.objs.size) (o:=.own (s.heap.objs.size+1)) (h':=s.heap.push PySem.W.emptyDict) (t':=s.toks) (fun b u q=>Heap.get?_push_of_some _ q) (Nat.le_refl _) ⟨_,e1⟩
 refine I1.laid (a:=s.heap.objs.size+1) (o:=.ins C s.heap.objs.size []) (t':=s.toks) (fun b u q=>Heap.get?_push_of_some _ q) (Nat.le_of_eq (Heap.size_push _ _)) ?_
 have ne:s.heap.objs.size ≠ s.heap.objs.size+1:=Nat.ne_of_lt (Nat.lt_succ_self _)
 refine ⟨by rw [upd_ne ne,upd_same],Nat.zero_le _,ne,e2,fun _=>none,(Heap.Ns1.of_empty e3).at fun o q=>Heap.get?_push_of_some _ q,fun _=>True.intro,fun y hy=>absurd rfl hy⟩
theorem attr_of {prog:Program} {w:World} {env:Env} {e:Expr} {f:Str} {pos:Pos} {s:Shared} {Q:Value→Shared→Prop} (hb:attributeBase e f env (eval e env)=eval e env)
 (h:wpAny (model prog w) A (eval e env) (fun o s₁=>wpAny (model prog w) A (getAttr o f true) Q E s₁) E s):wpAny (model prog w) A (eval (.Attribute e f pos) env) Q E s :=
 Attribute_any_ h (by rw [arm_eval_Attribute,hb])
end
def tFld (K:PySem.W.Frag) (ta:TE) (f:Str):TE:=fun σ H Q=>ta σ H fun x H1=>∃ a C dx fs v,x=.ref a∧H1 a=some (.ins C dx fs)∧Cls K C∧NoAttr K C f∧fs.lookup f=some v∧Q v H1
def sFld (K:PySem.W.Frag) (ta tv:TE) (f:Str):TS:=fun D σ H=>tv σ H fun y H1=>ta σ H1 fun x H2=>∃ a C dx fs,x=.ref a∧H2 a=some (.ins C dx fs)∧Cls K C∧NoAttr K C f∧fs.length < 1000 ∧
 D.nx σ (upd H2 a (.ins C dx (putF f y fs)))
section
variable {X:Cx} {o e value:Expr} {f:Str} {pos pos' tpos:Pos} {ta tv:TE}
theorem pe_fld (he:PE X e ta) (hb:attributeBase e f X.env (eval e X.env)=eval e X.env):PE X (.Attribute e f pos) (tFld X.K ta f):=by
 intro pins s σ H Q I h
 refine attr_of hb (thn (he pins s σ H _ I h) fun u s1 ⟨x,H1,I1,rx,a,C,dx,fs,v,ex,ea,c,n,l,q⟩=>?_)
 subst ex
 obtain rfl:u=Value.ref a:=rx
 exact getattr_ok I1 ea c n l fun u' s2 I2 ru=>⟨v,H1,I2,ru,q⟩
theorem ps_fld (ha:PE X o ta) (hv:PE X value tv) (hs:swapsWith value (some (.Attribute o f pos')) pos.line X.env=pure false):PS X (.Assign [.Attribute o f pos'] value pos) (sFld X.K ta tv f):=by
 intro pins s σ H D I h
 refine plainObj_wpAny_Assign_Attribute (thn (hv pins s σ H _ I h) fun u s1 ⟨y,H1,I1,ry,q⟩=>thn (ha pins s1 σ H1 _ I1 q) fun ov s2 ⟨x,H2,I2,rx,a,C,dx,fs,ex,ea,c,n,l,q2⟩=>?_) hs
 subst ex
 obtain rfl:ov=Value.ref a:=rx
 exact setattr_ok I2 ea c n l ry fun s3 I3=>⟨σ,_,I3,q2⟩
end
section
variable {X:Cx} {pins:List (Addr × Obj)} {σ:St} {H:Hp} {s:Shared} {A:Around} {E:Value→Shared→Prop} {Q:Value→Shared→Prop} {c:Value} {b:Bool}
inductive TyOf (K:PySem.W.Frag) (H:Hp):V→Value→Prop where
 | non:TyOf K H .non (.type "NoneType")
 | bl (x:Bool):TyOf K H (.bl x) (.type "bool")
 | int (i:Int):TyOf K H (.int i) (.type "int")
 | str (x:Str):TyOf K H (.str x) (.type "str")
 | flt (x:UInt64):TyOf K H (.flt x) (.type "float")
 | lst {a:Addr} {xs:List V} (e:H a=some (.lst xs)):TyOf K H (.ref a) (.type "list")
 | frz {a:Addr} {o:Obj} {xs:List V} (e:H a=some (.frz o (.lst xs))):TyOf K H (.ref a) (.type "list")
 | tup {a:Addr} {xs:List V} (e:H a=some (.tup xs)):TyOf K H (.ref a) (.type "tuple")
 | dK {a:Addr} {kvs:List (Key × V)} (e:H a=some (.dK kvs)):TyOf K H (.ref a) (.type "dict")
 | dT {a:Addr} {kvs:List (List Key × V)} (e:H a=some (.dT kvs)):TyOf K H (.ref a) (.type "dict")
 | ins {a C dx:Addr} {fs:List (Str × V)} (e:H a=some (.ins C dx fs)) (cl:Cls K C) (ha:PySem.W.findIn K (.ref C) "__class__"=some (some (.builtin "object.__class__")))
  (hn:PySem.W.specialIn K (.builtin "object.__class__") "__get__"=some (some (.builtin "getset_descriptor.__get__"))) (htk:PySem.W.takesIn K (.builtin "object.__class__")=some true)
  (hm:PySem.W.mroIn K C (.type "object")=some true):TyOf K H (.ref a) (.ref C)
theorem isinst_ok {x:V} {u t:Value} (I:Inv X pins σ H s) (rx:RelV x u) (ty:TyOf X.K H x t) (e:PySem.W.kitOne X.K t c=some b) (h:∀ tk,Q (.bool b) { s with toks:=tk }) :
 wpAny (model X.prog X.w) A (call (.builtin "isinstance") [u,c]) Q E s:=by
 cases ty with
 | non=>cases (show u=Value.none from rx); exact PySem.W.kia_one PySem.W.kitx_none I.kIn True.intro e (fun z=>nomatch z) h
 | bl y=>cases (show u=Value.bool y from rx); exact PySem.W.kia_one PySem.W.kitx_bool I.kIn True.intro e (fun z=>nomatch z) h
 | int i=>obtain ⟨t,q⟩:=(show ∃ t,u=Value.int i t from rx); cases q; exact PySem.W.kia_one PySem.W.kitx_int I.kIn True.intro e (fun z=>nomatch z) h
 | str y=>obtain ⟨t,q⟩:=(show ∃ t,u=Value.str y t from rx); cases q; exact PySem.W.kia_one PySem.W.kitx_str I.kIn True.intro e (fun z=>nomatch z) h
 | flt y=>obtain ⟨t,q⟩:=(show ∃ t,u=Value.float y t from rx); cases q; exact PySem.W.kia_one PySem.W.kitx_float I.kIn True.intro e (fun z=>nomatch z) h
 | @lst a xs ea =>
  cases (show u=Value.ref a from rx)
  obtain ⟨_,_,n,_,h1⟩:=(show ObjOk X.prog X.w H s.heap a (.lst xs) from I.hok a _ ea)
  exact PySem.W.kia_one PySem.W.kitx_list I.kIn ⟨_,h1,rfl⟩ e (fun z=>nomatch z) h
 | @frz a ob xs ea =>
  cases (show u=Value.ref a from rx)
  obtain ⟨_,_,_,n,_,h1⟩:=(show ObjOk X.prog X.w H s.heap a (.frz ob (.lst xs)) from I.hok a _ ea)
  exact PySem.W.kia_one PySem.W.kitx_list I.kIn ⟨_,h1,rfl⟩ e (fun z=>nomatch z) h
 | @tup a xs ea =>
  cases (show u=Value.ref a from rx)
  obtain ⟨_,_,_,p⟩:=(show ObjOk X.prog X.w H s.heap a (.tup xs) from I.hok a _ ea)
  obtain ⟨o,h1,h2,_⟩:=p
  exact PySem.W.kia_one PySem.W.kitx_tuple I.kIn ⟨o,h1,h2⟩ e (fun z=>nomatch z) h
 | @dK a kvs ea =>
  cases (show u=Value.ref a from rx)
  obtain ⟨_,_,vs,_,p⟩:=(show ObjOk X.prog X.w H s.heap a (.dK kvs) from I.hok a _ ea)
  obtain ⟨o,es,ep,h1,h2,_⟩:=p
  exact PySem.W.kia_one PySem.W.kitx_dict I.kIn ⟨o,h1,h2.1⟩ e (fun z=>nomatch z) h
 | @dT a kvs ea =>
  cases (show u=Value.ref a from rx)
  obtain ⟨_,_,xs,_,o,es,ep,h1,h2,_⟩:=(show ObjOk X.prog X.w H s.heap a (.dT kvs) from I.hok a _ ea)
  exact PySem.W.kia_one PySem.W.kitx_dict I.kIn ⟨o,h1,h2.1⟩ e (fun z=>nomatch z) h
 | @ins a C dx fs ea cl ha hn htk hm =>
  cases (show u=Value.ref a from rx)
  obtain ⟨mA,O,_⟩:=ins_get I.hok ea
  obtain ⟨od,J,_⟩:=O.look
  exact PySem.W.kia_one (PySem.W.kitx_own (cl.get _) cl.hd ha hn htk hm) I.kIn J e (fun z=>nomatch z) h
end
end L2
namespace L2
open PySem PySem.Spec PyProof.Rows
structure Room (k:Nat) (A:Around):Prop where
 hd:A.handled=none
 dp:A.depth+3 * k+5 < recursionLimit
 un:A.units+16 * k+200 < cLine
theorem Room.mono {j k:Nat} {A:Around} (r:Room k A) (h:j≤k):Room j A:=⟨r.hd,by have:=r.dp; omega,by have:=r.un; omega⟩
theorem Room.deeper {k:Nat} {A:Around} (r:Room (k+1) A) (env:Env):Room k (A.deeper env) :=
 ⟨r.hd,by have:=r.dp; show A.depth+1+3 * k+5 < _; omega,by have:=r.un; show A.units+3+16 * k+200 < _; omega⟩
theorem make_depth {A:Around} {C:Addr} {us:List Value} {kw:List (Str × Value)}:(A.under (.builtin "type.__call__" ⟨.ref C :: us,kw⟩)).depth=A.depth+1:=by
 first | rfl | simp [Around.under,Code.weight,Code.isCreation,Code.isGuard,Code.isCaller,Code.frames,Code.isFrame,guardIds]
theorem make_units {A:Around} {C:Addr} {us:List Value} {kw:List (Str × Value)}:(A.under (.builtin "type.__call__" ⟨.ref C :: us,kw⟩)).units=A.units+1:=by
 first | rfl | simp [Around.under,Code.cUnits,Code.frames,Code.isFrame]
theorem Room.make {k:Nat} {A:Around} (r:Room (k+1) A) (C:Addr) (us:List Value) (kw:List (Str × Value)):Room k (A.under (.builtin "type.__call__" ⟨.ref C :: us,kw⟩)) :=
 ⟨r.hd,by have:=r.dp; rw [make_depth]; omega,by have:=r.un; rw [make_units]; omega⟩
theorem Room.depth {k:Nat} {A:Around} (r:Room k A):A.depth < recursionLimit:=by have:=r.dp; omega
theorem Room.units {k:Nat} {A:Around} (r:Room k A):A.units+64 < cLine:=by have:=r.un; omega
theorem Room.units0 {k:Nat} {A:Around} (r:Room k A):A.units < cLine:=by have:=r.un; omega
def tNil:TA:=fun _ H Q=>Q [] H
def tCons (ta:TE) (tr:TA):TA:=fun σ H Q=>ta σ H fun x H1=>tr σ H1 fun xs H2=>Q (x :: xs) H2
section
variable {X:Cx} {e:Expr} {es:List Expr} {te:TE} {t:TA} {pos:Pos}
theorem pa_nil:PA X [] tNil:=fun _ _ _ _ H Q I h=>Calls.spliced_nil ⟨[],H,I,.nil,h⟩
theorem pa_cons (ha:PE X e te) (hr:PA X es t) (hs:starEach (e :: es) X.env=(false,eval e X.env) :: starEach es X.env:=by rfl):PA X (e :: es) (tCons te t):=by
 intro pos pins s σ H Q I h
 rw [hs]
 show wpAny _ _ (spliced ((false,eval e X.env) :: backTo pos (starEach es X.env))) _ _ s
 refine Calls.spliced_cons (thn (ha pins s σ H _ I h) fun u s1 ⟨x,H1,I1,r1,q1⟩=>?_)
 exact thn (hr pos pins s1 σ H1 _ I1 q1) fun us s2 ⟨xs,H2,I2,r2,q2⟩=>⟨x :: xs,H2,I2,.cons r1 r2,q2⟩
def tTup (t:TA):TE:=fun σ H Q=>t σ H fun xs H1=>xs.length≤sizeLine∧∀ p,H1 p=none→Q (.ref p) (upd H1 p (.tup xs))
def tLst (t:TA):TE:=fun σ H Q=>t σ H fun xs H1=>xs.length≤sizeLine∧∀ p,H1 p=none→Q (.ref p) (upd H1 p (.lst xs))
theorem pe_tup {x1} (h:PA X es t):PE X (.Tuple es x1 pos) (tTup t):=by
 intro pins s σ H Q I hq
 refine wpAny_Tuple_spliced (thn (h pos pins s σ H _ I hq) fun us s1 ⟨xs,H1,I1,r,z,q⟩=>⟨by rw [← r.length]; exact z,?_⟩)
 have hf:H1 s1.heap.objs.size=none:=I1.hok.fresh (Nat.le_refl _)
 refine ⟨.ref s1.heap.objs.size,upd H1 s1.heap.objs.size (.tup xs),I1.laid (t':=s1.toks) (fun b u e=>Heap.get?_push_of_some _ e) (Nat.le_refl _) ?_,rfl,q _ hf⟩
 exact ⟨z,us,r,⟨_,Heap.get?_push_size _ rfl,rfl,_,rfl⟩⟩
theorem pe_lst (h:PA X es t):PE X (.List es pos) (tLst t):=by
 intro pins s σ H Q I hq
 refine wpAny_List_spliced (thn (h pos pins s σ H _ I hq) fun us s1 ⟨xs,H1,I1,r,z,q⟩=>⟨by rw [← r.length]; exact z,?_⟩)
 have hf:H1 s1.heap.objs.size=none:=I1.hok.fresh (Nat.le_refl _)
 refine ⟨.ref s1.heap.objs.size,upd H1 s1.heap.objs.size (.lst xs),I1.laid (t':=s1.toks) (fun b u e=>Heap.get?_push_of_some _ e) (Nat.le_refl _) ?_,rfl,q _ hf⟩
 exact ⟨z,us,0,r,Heap.get?_push_size _ rfl⟩
end
abbrev Sp:=List V→Hp→VK→XK→Prop
abbrev CXT:=List Env→Hp→Shared→XK→Value→Shared→Prop
structure Env0 (P:Program) (w:World) (K:PySem.W.Frag) (mg:Str→Option Value) (base:Heap) (A:Around) (outer:List Env) (s:Shared) (H:Hp):Prop where
 frames:A.frames=some outer
 mod:Mod K mg base
 bs:∀ b o,base.get? b=some o→s.heap.get? b=some o∧H b=none
 bsz:base.objs.size≤s.heap.objs.size
 funs:s.heap.FunFrames base outer
 frf:∀ b∈frs outer,H b=none
 hok:HOk P w H s.heap
 bare:AllBare s.gens
def CE (outer:List Env) (P:Program) (w:World) (H:Hp) (s:Shared) (Q:VK) (u:Value) (s':Shared):Prop :=
 ∃ v H',s'.os=s.os∧AllBare s'.gens∧Un (frs outer) [] H H' s.heap s'.heap∧HOk P w H' s'.heap∧RelV v u∧Q v H'
def CR (CX:CXT) (outer:List Env) (P:Program) (w:World) (H:Hp) (s:Shared) (Q:VK) (E:XK) (r:Result) (s':Shared):Prop :=
 match r with
 | .ok (.ret u)=>CE outer P w H s Q u s'
 | .ok _=>False
 | .error e=>CX outer H s E e s'
structure FnOk (P:Program) (w:World) (K:PySem.W.Frag) (mg:Str→Option Value) (base:Heap) (CX:CXT) (k:Nat) (f:Addr) (fd:FuncData) (ps:List Str) (sp:Sp):Prop where
 len:∀ vs H Q E,sp vs H Q E→vs.length=ps.length
 run:∀ (A:Around) (outer:List Env) (s:Shared) (H:Hp) (args:Args) (us:List Value) (vs:List V) (Q:VK) (E:XK),Room k A→Env0 P w K mg base A outer s H→BindsTo s fd args (ps.zip us)→Vals vs us→sp vs H Q E →
  codeAny (model P w) A (.call (.ref f) args) (CR CX outer P w H s Q E) s
theorem Env0.make {P:Program} {w:World} {K:PySem.W.Frag} {mg:Str→Option Value} {base:Heap} {A:Around} {outer:List Env} {s:Shared} {H:Hp} (e:Env0 P w K mg base A outer s H) (C:Addr) (us:List Value) (kw:List (Str × Value)) :
 Env0 P w K mg base (A.under (.builtin "type.__call__" ⟨.ref C :: us,kw⟩)) outer s H:=⟨by first | exact e.frames | (simpa [Around.under,Code.envs,Code.isFrame,pushEnvs] using e.frames),e.mod,e.bs,e.bsz,e.funs,e.frf,e.hok,e.bare⟩
section
variable {X:Cx} {pins:List (Addr × Obj)} {σ:St} {H:Hp} {s s':Shared}
theorem Inv.env0 (I:Inv X pins σ H s):Env0 X.prog X.w X.K X.mg X.base X.A X.stack s H :=
 ⟨I.ok.frames,I.ok.mod,I.bs,Nat.le_trans I.ok.bsz I.sz,I.stack,I.stkFree,I.hok,I.bare⟩
theorem Inv.after {Q:VK} {u:Value} (I:Inv X pins σ H s) (h:CE X.stack X.prog X.w H s Q u s'):EP X pins σ Q u s':=by
 obtain ⟨v,H',os,bare,un,hok,r,q⟩:=h
 obtain ⟨hh,g,d,t,os'⟩:=s'
 obtain rfl:os'=s.os:=os
 exact ⟨v,H',I.call (h':=hh) (g':=g) (d':=d) (t':=t) (ch:=[]) un hok bare (fun b z=>absurd z (by simp)),r,q⟩
end
def tCall (sp:Sp) (dvs:List V) (E:XK) (t:TA):TE:=fun σ H Q=>t σ H fun vs H1=>sp (vs++dvs) H1 Q E
def tMeth (C:Addr) (m:Str) (sp:Sp) (dvs:List V) (E:XK) (ta:TE) (t:TA):TE:=fun σ H Q=>ta σ H fun x H1=>∃ a dx fs,x=.ref a∧H1 a=some (.ins C dx fs)∧fs.lookup m=none ∧
 t σ H1 fun vs H2=>sp (x :: (vs++dvs)) H2 Q E
def tMake (C:Addr) (sp:Sp) (dvs:List V) (E:XK) (t:TA):TE:=fun σ H Q=>t σ H fun vs H1=>∀ x dx,H1 x=none→H1 dx=none→dx ≠ x →
 sp (.ref x :: (vs++dvs)) (upd (upd H1 dx (.own x)) x (.ins C dx [])) (fun v H2=>v=.non∧Q (.ref x) H2) E
def Binds (K:PySem.W.Frag) (fd:FuncData) (ps:List Str) (ds:List Value):Prop :=
 ∀ (s:Shared) (us:List Value),K.In s.heap→(us++ds).length=ps.length→BindsTo s fd ⟨us,[]⟩ (ps.zip (us++ds))
theorem Binds.all {K:PySem.W.Frag} {fd:FuncData} {ps:List Str} (h:∀ us:List Value,us.length=ps.length→bindArgs fd ⟨us,[]⟩=pure (ps.zip us)):Binds K fd ps []:=fun s us _ hl=>by
 rw [List.append_nil] at hl ⊢
 exact .of_eq (h us hl)
def Passes (CX:CXT) (X:Cx) (E:XK):Prop:=∀ (pins:List (Addr × Obj)) (σ:St) (H:Hp) (s:Shared) (e:Value) (s':Shared),Inv X pins σ H s→CX X.stack H s E e s'→X.xe e s'
section
variable {X:Cx} {CX:CXT} {k:Nat} {f C:Addr} {fd:FuncData} {ps:List Str} {sp:Sp} {dvs:List V} {ds:List Value} {E:XK} {x m:Str} {p pos apos:Pos} {e o:Expr} {es:List Expr} {ta:TE} {t:TA}
theorem run_fn {pins:List (Addr × Obj)} {σ:St} {H:Hp} {s:Shared} {Q:VK} {us:List Value} {vs:List V} (F:FnOk X.prog X.w X.K X.mg X.base CX k f fd ps sp) (hr:Room k X.A) (hb:Binds X.K fd ps ds) (hd:Vals dvs ds) (hx:Passes CX X E)
 (I:Inv X pins σ H s) (r:Vals vs us) (h:sp (vs++dvs) H Q E):wpAny (model X.prog X.w) X.A (call (.ref f) us) (EP X pins σ Q) X.xe s:=by
 have r2:Vals (vs++dvs) (us++ds):=r.append hd
 have hl:(us++ds).length=ps.length:=by rw [← r2.length]; exact F.len _ _ _ _ h
 refine wpAny_call (codeAny_mono (F.run X.A X.stack s H ⟨us,[]⟩ (us++ds) (vs++dvs) Q E hr I.env0 (hb s us I.kIn hl) r2 h) fun r s' hq=>?_)
 cases r with
 | error e=>exact hx pins σ H s e s' I hq
 | ok fl =>
  cases fl with
  | ret u=>exact I.after hq
  | next=>exact False.elim hq
  | brk=>exact False.elim hq
  | cont=>exact False.elim hq
theorem pe_call (F:FnOk X.prog X.w X.K X.mg X.base CX k f fd ps sp) (hr:Room k X.A) (hg:Gl X x) (hm:X.mg x=some (.ref f)) (hk:PySem.W.keepIn X.K (.ref f)=true) (hb:Binds X.K fd ps ds) (hd:Vals dvs ds) (hx:Passes CX X E)
 (ha:PA X (e :: es) t) (hdb:(x == ("__debug__":Str))=false:=by decide) (he:starEach (e :: es) X.env=(false,eval e X.env) :: starEach es X.env:=by rfl) (hpl:(backTo pos (starEach es X.env)).any (·.1)=false:=by rfl) :
 PE X (.Call (.Name x p) (e :: es) [] pos) (tCall sp dvs E t):=by
 intro pins s σ H Q I h
 refine wpAny_Call_Name_kw (ld_glob I hg hm ?_ hdb)
 refine PySem.W.callWith_K (h₀:=X.base) I.ok.mod.kin hk (thn (ha pos pins s σ H _ I h) fun us s1 ⟨vs,H1,I1,r,q⟩=>⟨I1.kIn,?_⟩) he hpl
 exact run_fn F hr hb hd hx I1 r q
theorem pe_meth {pl:Sem Bool} (he:PE X o ta) (c:Cls X.K C) (hm:Meth X.K C m f) (F:FnOk X.prog X.w X.K X.mg X.base CX k f fd ps sp) (hr:Room k X.A) (hb:Binds X.K fd ps ds) (hd:Vals dvs ds) (hx:Passes CX X E) (ha:PA X (e :: es) t)
 (hst:starEach (e :: es) X.env=(false,eval e X.env) :: starEach es X.env:=by rfl) (hpl:(backTo pos (starEach es X.env)).any (·.1)=false:=by rfl)
 (ht:eval (.Call (.Attribute o m apos) (e :: es) [] pos) X.env=(do
  let ov ← eval o X.env
  standAt apos.atName
  let (f,first) ← holding [ov] (getMethod ov m pl)
  callWith pos f first (backTo pos (starEach (e :: es) X.env)) (backToKw pos (keywordEach [] X.env))):=by rfl) :
 PE X (.Call (.Attribute o m apos) (e :: es) [] pos) (tMeth C m sp dvs E ta t):=by
 intro pins s σ H Q I h
 refine PySem.W.methodCall_KW (pl:=pl) (thn (he pins s σ H _ I h) fun u s1 ⟨x,H1,I1,rx,a,dx,fs,ex,ea,l,q⟩=>?_) ht
 subst ex
 obtain rfl:u=Value.ref a:=rx
 refine getmeth_ok I1 ea c hm l ?_
 refine PySem.W.callWith_K (first:=[.ref a]) (h₀:=X.base) I.ok.mod.kin hm.kp (thn (ha pos pins s1 σ H1 _ I1 q) fun us s2 ⟨vs,H2,I2,r,q2⟩=>⟨I2.kIn,?_⟩) hst hpl
 exact run_fn (us:=.ref a :: us) (vs:=.ref a :: vs) F hr hb hd hx I2 (.cons rfl r) q2
theorem pe_meth0 {pl:Sem Bool} (he:PE X o ta) (c:Cls X.K C) (hm:Meth X.K C m f) (F:FnOk X.prog X.w X.K X.mg X.base CX k f fd ps sp) (hr:Room k X.A) (hb:Binds X.K fd ps ds) (hd:Vals dvs ds) (hx:Passes CX X E)
 (ht:eval (.Call (.Attribute o m apos) [] [] pos) X.env=(do
  let ov ← eval o X.env
  standAt apos.atName
  let (f,first) ← holding [ov] (getMethod ov m pl)
  callWith pos f first (backTo pos (starEach [] X.env)) (backToKw pos (keywordEach [] X.env))):=by rfl) :
 PE X (.Call (.Attribute o m apos) [] [] pos) (tMeth C m sp dvs E ta tNil):=by
 intro pins s σ H Q I h
 refine PySem.W.methodCall_KW (pl:=pl) (thn (he pins s σ H _ I h) fun u s1 ⟨x,H1,I1,rx,a,dx,fs,ex,ea,l,q⟩=>?_) ht
 subst ex
 obtain rfl:u=Value.ref a:=rx
 refine getmeth_ok I1 ea c hm l ?_
 exact PySem.W.callWith_K0 (first:=[.ref a]) I1.kIn hm.kp (run_fn (us:=[.ref a]) (vs:=[.ref a]) F hr hb hd hx I1 (.cons rfl .nil) q)
structure Mk (K:PySem.W.Frag) (C f:Addr):Prop where
 makes:PySem.W.makesIn K C=true
 init:PySem.W.findIn K (.ref C) "__init__"=some (some (.ref f))
 fn:PySem.W.isFn K (.ref f)=true
 kp:PySem.W.keepIn K (.ref C)=true
theorem run_make {pins:List (Addr × Obj)} {σ:St} {H:Hp} {s:Shared} {Q:VK} {us:List Value} {vs:List V} (M:Mk X.K C f) (F:FnOk X.prog X.w X.K X.mg X.base CX k f fd ps sp) (hr:Room (k+1) X.A) (hb:Binds X.K fd ps ds) (hd:Vals dvs ds)
 (hx:Passes CX X E) (I:Inv X pins σ H s) (r:Vals vs us)
 (h:∀ x dx,H x=none→H dx=none→dx ≠ x→sp (.ref x :: (vs++dvs)) (upd (upd H dx (.own x)) x (.ins C dx [])) (fun v H2=>v=.non∧Q (.ref x) H2) E) :
 wpAny (model X.prog X.w) X.A (call (.ref C) us) (EP X pins σ Q) X.xe s:=by
 have hq:=h (s.heap.objs.size+1) s.heap.objs.size (I.hok.fresh (Nat.le_succ _)) (I.hok.fresh (Nat.le_refl _)) (Nat.ne_of_lt (Nat.lt_succ_self _))
 have I2:=Inv.made (C:=C) I
 have r2:Vals (V.ref (s.heap.objs.size+1) :: (vs++dvs)) (Value.ref (s.heap.objs.size+1) :: (us++ds)):=.cons rfl (r.append hd)
 have hl:(Value.ref (s.heap.objs.size+1) :: us++ds).length=ps.length:=by
  have e:=r2.length
  rw [F.len _ _ _ _ hq] at e
  exact e.symm
 refine wpAny_call (make_map (f:=f) I.kIn M.makes M.init (beq_iff_eq.mp M.fn) (codeAny_mono (F.run _ X.stack _ _ ⟨Value.ref (s.heap.objs.size+1) :: us,[]⟩ (Value.ref (s.heap.objs.size+1) :: (us++ds)) _ _ E (hr.make C us [])
  (I2.env0.make C us []) (hb _ (Value.ref (s.heap.objs.size+1) :: us) I2.kIn hl) r2 hq) fun r s' hq'=>?_))
 cases r with
 | error e=>exact hx pins σ _ _ e s' I2 hq'
 | ok fl =>
  cases fl with
  | ret u =>
   obtain ⟨v,H',I3,rv,ev,q3⟩:=I2.after hq'
   subst ev
   exact ⟨rv,⟨V.ref (s.heap.objs.size+1),H',I3,rfl,q3⟩⟩
  | next=>exact False.elim hq'
  | brk=>exact False.elim hq'
  | cont=>exact False.elim hq'
theorem pe_make (M:Mk X.K C f) (F:FnOk X.prog X.w X.K X.mg X.base CX k f fd ps sp) (hr:Room (k+1) X.A) (hg:Gl X x) (hm:X.mg x=some (.ref C)) (hb:Binds X.K fd ps ds) (hd:Vals dvs ds) (hx:Passes CX X E)
 (ha:PA X (e :: es) t) (hdb:(x == ("__debug__":Str))=false:=by decide) (he:starEach (e :: es) X.env=(false,eval e X.env) :: starEach es X.env:=by rfl) (hpl:(backTo pos (starEach es X.env)).any (·.1)=false:=by rfl) :
 PE X (.Call (.Name x p) (e :: es) [] pos) (tMake C sp dvs E t):=by
 intro pins s σ H Q I h
 refine wpAny_Call_Name_kw (ld_glob I hg hm ?_ hdb)
 refine PySem.W.callWith_K (h₀:=X.base) I.ok.mod.kin M.kp (thn (ha pos pins s σ H _ I h) fun us s1 ⟨vs,H1,I1,r,q⟩=>⟨I1.kIn,?_⟩) he hpl
 exact run_make M F hr hb hd hx I1 r q
end
section
variable {X:Cx} {CX:CXT} {k:Nat} {f C:Addr} {fd:FuncData} {ps ks:List Str} {sp:Sp} {E:XK} {x m:Str} {p pos apos kpos:Pos} {e o:Expr} {es:List Expr} {kws:List Keyword} {te ta:TE} {t tk:TA} {nm:Option Str}
variable {g:List Value→List Value→List Value} {gV:List V→List V→List V}
end
structure FnScope (N P:List Str) (sc:Scope):Prop where
 kind:sc.kind=.function
 co:sc.isCoroutine=false
 gen:sc.isGenerator=false
 nd:N.Nodup
 pre:N.take P.length=P
 par:∀ x∈P,sc.names.lookup x=some .local∨sc.names.lookup x=some .cell
 nofree:∀ y∈sc.names,y.2 ≠ .free
theorem bindL_out {kindOf:Str→Option NameKind} {x:Str}:∀ {binds:List (Str × Value)} {m:Str→Option Value},(∀ v,(x,v) ∉ binds)→bindL kindOf binds m x=m x
 | [],_,_=>rfl
 | (n,v) :: r,m,h=>by
  unfold bindL
  rw [bindL_out fun w hw=>h w (List.mem_cons_of_mem _ hw)]
  split
  · have:x ≠ n:=by rintro rfl; exact h v List.mem_cons_self
    simp [this]
  · rfl
theorem bindC_out {kindOf:Str→Option NameKind} {x:Str}:∀ {binds:List (Str × Value)} {m:Str→Option Value},(∀ v,(x,v) ∉ binds)→bindC kindOf binds m x=m x
 | [],_,_=>rfl
 | (n,v) :: r,m,h=>by
  unfold bindC
  rw [bindC_out fun w hw=>h w (List.mem_cons_of_mem _ hw)]
  split
  · rfl
  · have:x ≠ n:=by rintro rfl; exact h v List.mem_cons_self
    simp [this]
theorem bindL_get {kindOf:Str→Option NameKind} {x:Str} {v:Value}:∀ {P:List Str} {vs:List Value} {i:Nat} {m:Str→Option Value},P.Nodup→P[i]?=some x→vs[i]?=some v→kindOf x=some .local →
 bindL kindOf (P.zip vs) m x=some v
 | [],_,_,_,_,h,_,_=>by simp at h
 | _ :: _,[],_,_,_,_,h,_=>by simp at h
 | p :: P,w :: vs,0,m,nd,h1,h2,hk=>by
  simp at h1 h2; subst h1; subst h2
  show bindL kindOf ((p,w) :: P.zip vs) m p=_
  unfold bindL
  rw [bindL_out fun v hv=>(List.nodup_cons.mp nd).1 (List.of_mem_zip hv).1,if_pos hk]
  simp
 | p :: P,w :: vs,i+1,m,nd,h1,h2,hk=>by
  show bindL kindOf ((p,w) :: P.zip vs) m x=_
  unfold bindL
  exact bindL_get (i:=i) (List.nodup_cons.mp nd).2 (by simpa using h1) (by simpa using h2) hk
theorem bindC_get {kindOf:Str→Option NameKind} {x:Str} {v:Value}:∀ {P:List Str} {vs:List Value} {i:Nat} {m:Str→Option Value},P.Nodup→P[i]?=some x→vs[i]?=some v→kindOf x ≠ some .local →
 bindC kindOf (P.zip vs) m x=some v
 | [],_,_,_,_,h,_,_=>by simp at h
 | _ :: _,[],_,_,_,_,h,_=>by simp at h
 | p :: P,w :: vs,0,m,nd,h1,h2,hk=>by
  simp at h1 h2; subst h1; subst h2
  show bindC kindOf ((p,w) :: P.zip vs) m p=_
  unfold bindC
  rw [bindC_out fun v hv=>(List.nodup_cons.mp nd).1 (List.of_mem_zip hv).1,if_neg hk]
  simp
 | p :: P,w :: vs,i+1,m,nd,h1,h2,hk=>by
  show bindC kindOf ((p,w) :: P.zip vs) m x=_
  unfold bindC
  exact bindC_get (i:=i) (List.nodup_cons.mp nd).2 (by simpa using h1) (by simpa using h2) hk
def start (N:List Str) (vs:List V):St:=vs.map some++List.replicate (N.length - vs.length) none
def cxOf (CX:CXT) (P:Program) (w:World) (K:PySem.W.Frag) (mg:Str→Option Value) (base:Heap) (N:List Str) (qual:Str) (scope:Scope) (f:Addr) (cd:Value) (A:Around) (outer:List Env) (s:Shared) (H:Hp) (E:XK):Cx where
 prog:=P
 w:=w
 K:=K
 mg:=mg
 base:=base
 A:=A.deeper (envOfC qual scope s.heap.objs.size f cd)
 N:=N
 s₀:=s
 H₀:=H
 env:=envOfC qual scope s.heap.objs.size f cd
 outer:=outer
 stack:=envOfC qual scope s.heap.objs.size f cd :: outer
 ex:=[]
 calm:=true
 fn:=fun _=>true
 pn:=[]
 xe:=fun e s'=>wpAny (model P w) (A.deeper (envOfC qual scope s.heap.objs.size f cd)) (leaving (envOfC qual scope s.heap.objs.size f cd) e) (fun _ s''=>CX outer H s E e s'') (fun e' s''=>CX outer H s E e' s'') s'
theorem cell_has {sc:Scope} {n:Nat} {x:Str} (h:sc.names.lookup x=some .cell):∃ c,(cellsFrom n sc.names []).lookup x=some c:=by
 have q:=PySem.W.cellsFrom_some sc.names n [] (.inl h)
 exact Option.isSome_iff_exists.mp q
theorem inv_start {CX:CXT} {P:Program} {w:World} {K:PySem.W.Frag} {mg:Str→Option Value} {base:Heap} {N ps:List Str} {qual:Str} {scope:Scope} {f:Addr} {cd:Value} {A:Around} {outer:List Env} {s s1:Shared} {H:Hp} {E:XK} {us:List Value} {vs:List V}
 (S:FnScope N ps scope) (hd:A.handled=none) (e0:Env0 P w K mg base A outer s H) (hl:vs.length=ps.length) (r:Vals vs us)
 (x:InCallC s s.heap.objs.size (bindL (envOfC qual scope s.heap.objs.size f cd).kindOf (ps.zip us) fun _=>none) (cellsFrom (s.heap.objs.size+1) scope.names []) (bindC (envOfC qual scope s.heap.objs.size f cd).kindOf (ps.zip us) fun _=>none) s1) :
 Inv (cxOf CX P w K mg base N qual scope f cd A outer s H E) [] (start N vs) H s1:=by
 have hpl:ps.length≤N.length:=by have:=congrArg List.length S.pre; rw [List.length_take] at this; omega
 obtain ⟨h1,tk,rfl,hk⟩:=x.done
 have noA:∀ b:Addr,b ∉ (cxOf CX P w K mg base N qual scope f cd A outer s H E).ex:=fun b z=>absurd (show b∈([]:List Addr) from z) (by simp)
 refine ⟨⟨e0.mod,S.kind,rfl,rfl,Nat.le_refl _,fun y z c h1 h2=>?_,fun y hy=>?_,fun y c _ h=>?_,fun _=>hd,Around.frames_deeper e0.frames,.inr ⟨rfl,rfl⟩,fun b z=>absurd z (noA b),e0.bs,e0.bsz,fun b _ _=>noA b,fun b z=>absurd z (noA b),e0.funs,e0.frf⟩,
  rfl,e0.bare,Un.kept hk,⟨_,x.toInCall.ns,fun i y v h1 h2 h3=>?_⟩,fun y c h=>⟨_,x.cell y c h⟩,e0.hok.fresh (Nat.le_refl _),fun y c h=>?_,fun p hp=>absurd (show p∈([]:List (Addr × Obj)) from hp) (by simp),e0.hok.kept hk,?_⟩
 · exact name_of_addr x.apart (PySem.mem_of_lookup h1) (PySem.mem_of_lookup h2)
 · have hy:scope.names.lookup y=some .cell∨scope.names.lookup y=some .free:=hy
   rcases hy with hy | hy
   · exact cell_has hy
   · exact absurd rfl (S.nofree _ (PySem.mem_of_lookup hy))
 · exact Nat.le_of_lt (x.above y c (PySem.mem_of_lookup h))
 · have hi:i < vs.length:=by
    unfold start at h2
    by_cases hi:i < vs.length
    · exact hi
    · rw [List.getElem?_append_right (by simpa using hi)] at h2
      rw [List.getElem?_replicate] at h2
      split at h2 <;> cases h2
   have ha:vs[i]?=some v:=by
    unfold start at h2
    rw [List.getElem?_append_left (by simpa using hi),List.getElem?_map] at h2
    cases e:vs[i]? with
    | none=>rw [e] at h2; cases h2
    | some a=>rw [e] at h2; cases h2; rfl
   obtain ⟨u,hu,rv⟩:=r.get ha
   have hp:ps[i]?=some y:=by
    rw [← S.pre,List.getElem?_take_of_lt (by omega)]; exact h1
   have ndP:ps.Nodup:=by rw [← S.pre]; exact S.nd.sublist (List.take_sublist _ _)
   refine ⟨u,rv,?_⟩
   rcases S.par y (List.mem_of_getElem? hp) with k | k
   · exact .inl ⟨k,bindL_get ndP hp hu k⟩
   · obtain ⟨c,e⟩:=cell_has (n:=s.heap.objs.size+1) k
     refine .inr ⟨.inl k,c,e,?_⟩
     have q:=x.cell y c e
     rw [bindC_get ndP hp hu (by show scope.names.lookup y ≠ _; rw [k]; decide)] at q
     exact q
 · exact e0.hok.fresh (Nat.le_of_lt (x.above y c (PySem.mem_of_lookup h)))
 · unfold start
   show _=N.length
   rw [List.length_append,List.length_map,List.length_replicate]
   omega
theorem fn_of {CX:CXT} {P:Program} {w:World} {K:PySem.W.Frag} {mg:Str→Option Value} {base:Heap} {k:Nat} {f:Addr} {name qual:Str} {params:Arguments} {body:List Stmt} {scope:Scope} {dV kV doc pm cdv ct oc:Value} {an od:Option Addr}
 {osl:Array (Option Value)} {N ps:List Str} {sp:Sp} (lk:K.lookup f=some ⟨oc,od,.func (PySem.W.fnOf name qual params body scope dV kV doc pm an cdv ct),osl⟩) (hcd:PySem.W.codeIn K cdv qual=true) (S:FnScope N ps scope)
 (len:∀ vs H Q E,sp vs H Q E→vs.length=ps.length)
 (hbody:∀ (A:Around) (outer:List Env) (s:Shared) (H:Hp) (vs:List V) (Q:VK) (E:XK),Room k (A.deeper (envOfC qual scope s.heap.objs.size f cdv))→sp vs H Q E →
  ∃ t,PSs (cxOf CX P w K mg base N qual scope f cdv A outer s H E) body t∧t { nx:=fun _ H'=>Q .non H',rt:=Q } (start N vs) H) :
 FnOk P w K mg base CX (k+1) f (PySem.W.fnOf name qual params body scope dV kV doc pm an cdv ct) ps sp:=by
 refine ⟨len,fun A outer s H args us vs Q E hr e0 hb r hsp=>?_⟩
 have hl:=len _ _ _ _ hsp
 have KX:K.In s.heap:=e0.mod.kin.keeps fun b o e=>(e0.bs b o e).1
 have lim:s.heap.NoLimit:=e0.mod.nolimit.keeps fun b o e=>(e0.bs b o e).1
 have hkind:∀ y∈ps.zip us,scope.names.lookup y.1=some .local∨(scope.names.lookup y.1=some .cell∧((cellsFrom (s.heap.objs.size+1) scope.names []).lookup y.1).isSome=true):=fun ⟨n,v⟩ hy=>by
  rcases S.par n (List.of_mem_zip hy).1 with q | q
  · exact .inl q
  · exact .inr ⟨q,PySem.W.cellsFrom_some _ _ _ (.inl q)⟩
 refine codeAny_call_function hr.depth (KX _ _ lk) rfl S.co S.gen rfl (PySem.W.codeRec_of KX hcd) (hb _ _ _ _ ?_)
 refine wpAny_newFunctionEnv_cells S.kind hkind fun env he s1 x=>?_
 subst he
 refine ⟨lim.keeps x.toInCall.keep,codeAny_func ?_⟩
 obtain ⟨t,ht,hq⟩:=hbody A outer s H vs Q E (hr.deeper _) hsp
 have I:Inv (cxOf CX P w K mg base N qual scope f cdv A outer s H E) [] (start N vs) H s1:=inv_start S hr.hd e0 hl r x
 refine wpAny_mono (ht [] s1 (start N vs) H _ I hq) (fun fl s' hs=>?_) fun e s' hs=>hs
 have fin:∀ {σ':St} {H':Hp} {v:V} {u:Value},Inv (cxOf CX P w K mg base N qual scope f cdv A outer s H E) [] σ' H' s'→RelV v u→Q v H'→CE outer P w H s Q u s' :=
  fun {σ' H' v u} J rv q=>⟨v,H',J.os,J.bare,J.base,J.hok,rv,q⟩
 cases fl with
 | ret u =>
  obtain ⟨v,σ',H',J,rv,q⟩:=hs
  exact fin J rv q
 | next =>
  obtain ⟨σ',H',J,q⟩:=hs
  exact fin (v:=V.non) (u:=Value.none) J rfl q
 | brk =>
  obtain ⟨_,_,_,q⟩:=hs
  exact False.elim q
 | cont =>
  obtain ⟨_,_,_,q⟩:=hs
  exact False.elim q
end L2
namespace L2
open PySem PySem.Spec PyProof.Rows
section
variable {X:Cx} {x:Str} {p pos:Pos} {e:Expr} {es:List Expr} {t:TA} {id T:String} {r:List V→Hp→VK→Prop}
def tCB (r:List V→Hp→VK→Prop) (t:TA):TE:=fun σ H Q=>t σ H fun vs H1=>r vs H1 Q
theorem pe_callB (hc:CallR X (.builtin id) r) (hg:Gl X x) (hm:X.mg x=none) (hv:bootBuiltins x=some (.builtin id)) (ha:PA X (e :: es) t) (hn:x ≠ "__name__":=by decide) (hdb:(x == ("__debug__":Str))=false:=by decide)
 (he:starEach (e :: es) X.env=(false,eval e X.env) :: starEach es X.env:=by rfl) (hpl:(backTo pos (starEach es X.env)).any (·.1)=false:=by rfl):PE X (.Call (.Name x p) (e :: es) [] pos) (tCB r t):=by
 intro pins s σ H Q I h
 refine wpAny_Call_Name_kw (ld_blt I hg hm hv ?_ hn hdb)
 exact PyProof.Rows.callWith_builtin1 (thn (ha pos pins s σ H _ I h) fun us s1 ⟨vs,H1,I1,r1,q1⟩=>hc pins s1 σ H1 vs us Q I1 r1 q1) he hpl
theorem pe_callTy (hc:CallR X (.type T) r) (hg:Gl X x) (hm:X.mg x=none) (hv:bootBuiltins x=some (.type T)) (ha:PA X (e :: es) t) (hn:x ≠ "__name__":=by decide) (hdb:(x == ("__debug__":Str))=false:=by decide)
 (he:starEach (e :: es) X.env=(false,eval e X.env) :: starEach es X.env:=by rfl) (hpl:(backTo pos (starEach es X.env)).any (·.1)=false:=by rfl):PE X (.Call (.Name x p) (e :: es) [] pos) (tCB r t):=by
 intro pins s σ H Q I h
 refine wpAny_Call_Name_kw (ld_blt I hg hm hv ?_ hn hdb)
 exact PyProof.Rows.callWith_type1 (thn (ha pos pins s σ H _ I h) fun us s1 ⟨vs,H1,I1,r1,q1⟩=>hc pins s1 σ H1 vs us Q I1 r1 q1) he hpl
end
end L2
namespace HT
open PySem PyProof.Rows
def lexLt:List Int→List Int→Bool
 | [],[]=>false
 | [],_ :: _=>true
 | _ :: _,[]=>false
 | x :: xs,y :: ys=>if x=y then lexLt xs ys else decide (x < y)
theorem lexLt_cons (x y:Int) (xs ys:List Int):lexLt (x :: xs) (y :: ys)=if x=y then lexLt xs ys else decide (x < y):=rfl
theorem lexLt_nil_nil:lexLt [] []=false:=rfl
theorem lexLt_nil_cons (y:Int) (ys:List Int):lexLt [] (y :: ys)=true:=rfl
theorem lexLt_cons_nil (x:Int) (xs:List Int):lexLt (x :: xs) []=false:=rfl
theorem eqAt_int (A:Around) (s:Shared) (a:Int) (t:Tok) (c:Int) (u:Tok):∃ e,SeqAt.EqAt A s (.int a t) (.int c u) e∧(e=true↔a=c) :=
 ⟨(a == c),SeqAt.EqAt.int_int a t c u,by simp⟩
theorem rcLt_int (A:Around) (s:Shared) (a:Int) (t:Tok) (c:Int) (u:Tok) (prog:Program) (w:World) (E:Value→Shared→Prop) (Q:Value→Shared→Prop) (h:Q (.bool (decide (a < c))) s) :
 wpAny (model prog w) A (richCompare .Lt (.int a t) (.int c u)) Q E s :=
 (PyProof.Rows.lt_int h:wpAny (model prog w) A (compareOp .Lt (.int a t) (.int c u)) Q E s)
section
open PySem.SeqAt
open PySem.AutoSeq1 (wpAny_loadPart')
open PySem.MeetsSeq PySem.MeetsSeq2 PySem.MeetsSeq3
end
section
variable {prog:Program} {w:World} {A:Around} {E:Value→Shared→Prop} {s:Shared}
def sIx (n d:Nat):Option Int→Nat
 | none=>d
 | some v=>if v < 0 then (v+(n:Int)).toNat else min v.toNat n
theorem sIx_none (n d:Nat):sIx n d none=d:=rfl
theorem sIx_nat (n d k:Nat):sIx n d (some (k:Int))=min k n:=by
 show (if (k:Int) < 0 then ((k:Int)+(n:Int)).toNat else min (k:Int).toNat n)=min k n
 rw [if_neg (by omega),Int.toNat_natCast]
end
end HT
namespace L2
open PySem PySem.Spec PyProof.Rows
abbrev TO:=St→Hp→(Option Int→Hp→Prop)→Prop
def PO (X:Cx) (e:Option Expr) (t:TO):Prop :=
 ∀ (pins:List (Addr × Obj)) (s:Shared) (σ:St) (H:Hp) (Q:Option Int→Hp→Prop),Inv X pins σ H s→t σ H Q →
  wpAny (model X.prog X.w) X.A (evalPart e X.env) (fun u s'=>∃ o H',Inv X pins σ H' s'∧IsPart u o∧Q o H') X.xe s
def tNoPart:TO:=fun _ H Q=>Q none H
def tPart (t:TE):TO:=fun σ H Q=>t σ H fun x H1=>∃ i,x=.int i∧Q (some i) H1
section
variable {X:Cx} {e:Expr} {te:TE} {lo hi:Option Expr} {tl th:TO} {pos p2:Pos}
theorem po_none:PO X none tNoPart:=by
 intro pins s σ H Q I h
 rw [evalPart_none]
 exact wpAny_pure ⟨none,H,I,.none,h⟩
theorem po_some (h:PE X e te):PO X (some e) (tPart te):=by
 intro pins s σ H Q I hw
 rw [evalPart_some]
 refine thn (h pins s σ H _ I hw) fun u s1 ⟨x,H1,I1,r1,q1⟩=>?_
 obtain ⟨i,rfl,q⟩:=q1
 obtain ⟨t,rfl⟩:=r1
 exact ⟨some i,H1,I1,.int i t,q⟩
def SlR (X:Cx) (r:V→Option Int→Option Int→Hp→VK→Prop):Prop :=
 ∀ (pins:List (Addr × Obj)) (s:Shared) (σ:St) (H:Hp) (x:V) (v vl vu:Value) (lo hi:Option Int) (sl:Addr) (Q:VK),Inv X pins σ H s→RelV x v→s.heap.IsSliceOf sl vl vu .none→IsPart vl lo→IsPart vu hi→r x lo hi H Q →
  ∃ T id,typeLookup (.type T) "__getitem__"=pure (some (.builtin id))∧s.TypeIs v T∧wpAny (model X.prog X.w) X.A (getItem v (.ref sl)) (EP X pins σ Q) X.xe s
def tSl (r:V→Option Int→Option Int→Hp→VK→Prop) (te:TE) (tl th:TO):TE:=fun σ H Q=>te σ H fun x H1=>tl σ H1 fun l H2=>th σ H2 fun u H3=>r x l u H3 Q
theorem pe_slice {r:V→Option Int→Option Int→Hp→VK→Prop} (hr:SlR X r) (he:PE X e te) (hl:PO X lo tl) (hu:PO X hi th):PE X (.Subscript e (.Slice lo hi none p2) pos) (tSl r te tl th):=by
 intro pins s σ H Q I h
 refine Subscript_ (thn (he pins s σ H _ I h) fun v s1 ⟨x,H1,I1,r1,q1⟩=>?_)
 refine wpAny_Slice (thn (hl pins s1 σ H1 _ I1 q1) fun vl s2 ⟨l,H2,I2,pl,q2⟩=>thn (hu pins s2 σ H2 _ I2 q2) fun vu s3 ⟨u,H3,I3,pu,q3⟩=>?_)
 rw [evalPart_none]
 refine wpAny_pure ?_
 have I4:Inv X pins σ H3 { s3 with heap:=s3.heap.push { cls:=.type "slice",data:=.fields #[vl,vu,.none] } }:=I3.kept (t':=s3.toks) fun b ob q=>Heap.get?_push_of_some _ q
 obtain ⟨T,id,hT,ht,hg⟩:=hr pins { s3 with heap:=s3.heap.push { cls:=.type "slice",data:=.fields #[vl,vu,.none] } } σ H3 x v vl vu l u s3.heap.objs.size Q I4 r1 (Heap.IsSliceOf.new ..) pl pu q3
 show wpAny (model X.prog X.w) X.A (subscriptTail e (.Slice lo hi none p2) v (.ref s3.heap.objs.size)) (EP X pins σ Q) X.xe { s3 with heap:=s3.heap.push { cls:=.type "slice",data:=.fields #[vl,vu,.none] } }
 exact tail_any (ops:=[.ref s3.heap.objs.size,v]) ht hT hg (by with_unfolding_all rfl)
def cutV (xs:List V) (lo hi:Option Int):List V:=(xs.drop (HT.sIx xs.length 0 lo)).take (HT.sIx xs.length xs.length hi - HT.sIx xs.length 0 lo)
theorem cutV_length (xs:List V) (lo hi:Option Int):(cutV xs lo hi).length≤xs.length:=by
 unfold cutV
 rw [List.length_take,List.length_drop]
 omega
end
end L2
namespace L2
open PySem PySem.Spec PyProof.Rows
def ixN (n:Nat) (i:Int):Option Nat:=if 0≤i then (if i < n then some i.toNat else none) else if -(n:Int)≤i then some (i+n).toNat else none
def atI {α:Type} (xs:List α) (i:Int):Option α:=(ixN xs.length i).bind fun j=>xs[j]?
theorem ixN_seq {n:Nat} {i:Int} {j:Nat} (h:ixN n i=some j):seqIndex? i n=some j∧j < n ∧ -(n:Int)≤i∧i < n:=by
 unfold ixN at h
 by_cases h0:0≤i
 · rw [if_pos h0] at h
   by_cases h1:i < n
   · rw [if_pos h1] at h
     have e:i.toNat=j:=Option.some.inj h
     exact ⟨by rw [seqIndex_of h0 h1,e],by omega,by omega,h1⟩
   · rw [if_neg h1] at h; cases h
 · rw [if_neg h0] at h
   by_cases h1 : -(n:Int)≤i
   · rw [if_pos h1] at h
     have e:(i+n).toNat=j:=Option.some.inj h
     exact ⟨by rw [seqIndex_neg (by omega) h1,e],by omega,h1,by omega⟩
   · rw [if_neg h1] at h; cases h
theorem atI_get {α:Type} {xs:List α} {i:Int} {v:α} (h:atI xs i=some v):∃ j,seqIndex? i xs.length=some j∧xs[j]?=some v∧j < xs.length ∧ -(xs.length:Int)≤i∧i < xs.length:=by
 unfold atI at h
 cases e:ixN xs.length i with
 | none=>rw [e] at h; cases h
 | some j =>
  rw [e] at h
  obtain ⟨h1,h2,h3,h4⟩:=ixN_seq e
  exact ⟨j,h1,h,h2,h3,h4⟩
theorem atI_nat {α:Type} {xs:List α} {j:Nat} {v:α} (h:xs[j]?=some v):atI xs (j:Int)=some v:=by
 have hj:j < xs.length:=(List.getElem?_eq_some_iff.mp h).1
 have e:ixN xs.length (j:Int)=some j:=by
  unfold ixN
  rw [if_pos (by omega),if_pos (by omega)]; simp
 unfold atI; rw [e]; exact h
theorem atI_last {α:Type} (xs:List α) (v:α):atI (xs++[v]) (-1)=some v:=by
 have hl:(xs++[v]).length=xs.length+1:=by simp
 have e:ixN (xs++[v]).length (-1)=some xs.length:=by
  unfold ixN
  rw [hl,if_neg (by decide),if_pos (by omega)]
  congr 1
  omega
 unfold atI
 rw [e]
 show (xs++[v])[xs.length]?=some v
 simp
def PlainIx (b:Expr):Prop:=∀ o i,subscripted b false o i=operate [o,i] (getItem o i)
def IxR (X:Cx) (r:R2):Prop :=
 ∀ (value slice:Expr) (pins:List (Addr × Obj)) (s:Shared) (σ:St) (H:Hp) (x y:V) (v u:Value) (Q:VK),Inv X pins σ H s→RelV x v→RelV y u→r x y H Q →
  subscripted slice false v u=operate [v,u] (getItem v u)→wpAny (model X.prog X.w) X.A (subscriptTail value slice v u) (EP X pins σ Q) X.xe s
def MtR (X:Cx) (id:String) (r:V→List V→Hp→VK→Prop):Prop :=
 ∀ (pins:List (Addr × Obj)) (s:Shared) (σ:St) (H:Hp) (x:V) (xs:List V) (v:Value) (us:List Value) (Q:VK),Inv X pins σ H s→RelV x v→Vals xs us→r x xs H Q →
  wpAny (model X.prog X.w) X.A (call (.builtin id) (v :: us)) (EP X pins σ Q) X.xe s
section
variable {X:Cx} {a b:Expr} {ta tb:TE} {pos:Pos}
theorem pe_ix {r:R2} (hr:IxR X r) (ha:PE X a ta) (hb:PE X b tb) (hs:PlainIx b):PE X (.Subscript a b pos) (tOp r ta tb):=by
 intro pins s σ H Q I h
 exact Subscript_ (binT ha hb I h fun v u s2 x y H2 I2 rx ry q=>hr a b pins s2 σ H2 x y v u Q I2 rx ry q (hs _ _))
def rIxL (K:PySem.W.Frag):R2:=fun x y H Q=>∃ p xs i v,x=.ref p∧y=.int i∧SqL K H p xs∧atI xs i=some v∧Q v H
def rIxT (K:PySem.W.Frag):R2:=fun x y H Q=>∃ p xs i v,x=.ref p∧y=.int i∧SqT K H p xs∧atI xs i=some v∧Q v H
theorem ix_list:IxR X (rIxL X.K):=by
 intro value slice pins s σ H x y v u Q I rx ry h hs
 obtain ⟨p,xs,i,z,rfl,rfl,hq,he,q⟩:=h
 cases rx
 obtain ⟨t,rfl⟩:=ry
 obtain ⟨its,r,pl,hz⟩:=I.list hq
 obtain ⟨j,h1,h2,h3,h4,h5⟩:=atI_get he
 obtain ⟨w,ew,rw'⟩:=r.get h2
 have hl:=r.length
 have hn:=line63
 have fin:EP X pins σ Q w s:=⟨z,H,I,rw',q⟩
 by_cases h0:0≤i
 · have hj:i.toNat=j:=by
    rw [seqIndex_of h0 h5] at h1
    exact Option.some.inj h1
   exact item_listR pl.isList h0 (by omega) (by rw [hj]; simpa using ew) fin hs
 · have hj:(i+(its.toArray.size:Int)).toNat=j:=by
    rw [seqIndex_neg (by omega) h4] at h1
    rw [List.size_toArray,← hl]
    exact Option.some.inj h1
   exact subscriptTail_builtinR (x:=w) pl.isList.typeIs slot_list_getitem.lookup
    (wpAny_getItem_list_neg (Q:=fun r s'=>r=w∧EP X pins σ Q r s') pl.isList (by omega) (by rw [List.size_toArray] <;> omega) (by omega) (by rw [hj]; simpa using ew) ⟨rfl,fin⟩) hs
theorem ix_tup:IxR X (rIxT X.K):=by
 intro value slice pins s σ H x y v u Q I rx ry h hs
 obtain ⟨p,xs,i,z,rfl,rfl,hq,he,q⟩:=h
 cases rx
 obtain ⟨t,rfl⟩:=ry
 obtain ⟨its,r,pl,hz⟩:=I.tuple hq
 obtain ⟨j,h1,h2,h3,h4,h5⟩:=atI_get he
 obtain ⟨w,ew,rw'⟩:=r.get h2
 have hl:=r.length
 have hn:=line63
 have fin:EP X pins σ Q w s:=⟨z,H,I,rw',q⟩
 exact subscriptTail_builtinR (x:=w) pl.typeIs slot_tuple_getitem.lookup
  (getItem_tuple (j:=j) (Q:=fun r s'=>r=w∧EP X pins σ Q r s') pl (by omega) (by omega) (by rw [List.size_toArray,← hl]; exact h1) (by simpa using ew) ⟨rfl,fin⟩) hs
theorem mapSeq_set (its:List Value) (n j:Nat) (u:Value):Obj.mapSeq (·.setIfInBounds j u) { cls:=.type "list",data:=.seq its.toArray n }={ cls:=.type "list",data:=.seq (its.set j u).toArray n }:=by
 simp [Obj.mapSeq]
theorem Inv.lst {pins:List (Addr × Obj)} {σ:St} {H:Hp} {s:Shared} {p:Addr} {xs:List V} (I:Inv X pins σ H s) (h:H p=some (.lst xs)) :
 ∃ (its:List Value) (n:Nat),Vals xs its∧s.heap.get? p=some { cls:=.type "list",data:=.seq its.toArray n }∧xs.length≤sizeLine:=by
 obtain ⟨z,its,n,r,e⟩:=I.hok p _ h
 exact ⟨its,n,r,e,z⟩
theorem Inv.lstUpd {pins:List (Addr × Obj)} {σ:St} {H:Hp} {s:Shared} {p:Addr} {xs ys:List V} {its its':List Value} {n n':Nat} {f:Obj→Obj} (I:Inv X pins σ H s) (h:H p=some (.lst xs))
 (ho:s.heap.get? p=some { cls:=.type "list",data:=.seq its.toArray n }) (hf:f { cls:=.type "list",data:=.seq its.toArray n }={ cls:=.type "list",data:=.seq its'.toArray n' }) (r:Vals ys its') (hz:ys.length≤sizeLine) (t:Nat) :
 Inv X pins σ (upd H p (.lst ys)) { s with heap:=s.heap.update p f,toks:=t }:=by
 have e:(s.heap.update p f).get? p=some { cls:=.type "list",data:=.seq its'.toArray n' }:=by
  rw [Heap.get?_update_self f ho (by rw [hf] <;> rfl),hf]
 refine I.write (x:=p) (e:=p) (by rw [h]; trivial) (.inl rfl) (fun b u hb q=>(Heap.get?_update_other _ _ (Ne.symm hb)).trans q) ⟨_,e⟩ ?_
 exact ⟨hz,its',n',r,e⟩
def rSetL:V→V→V→Hp→(Hp→Prop)→Prop:=fun o i v H Q=>∃ p xs k j,o=.ref p∧i=.int k∧H p=some (.lst xs)∧ixN xs.length k=some j∧Q (upd H p (.lst (xs.set j v)))
theorem set_list:PSet X rSetL:=by
 intro pins s σ H o i v ov iv u Q I ro ri rv h
 obtain ⟨p,xs,k,j,rfl,rfl,hp,hj,q⟩:=h
 cases ro
 obtain ⟨t,rfl⟩:=ri
 obtain ⟨its,n,r,ho,hz⟩:=I.lst hp
 obtain ⟨h1,h2,h3,h4⟩:=ixN_seq hj
 have hl:=r.length
 have hn:=line63
 have I':Inv X pins σ (upd H p (.lst (xs.set j v))) { s with heap:=s.heap.update p (Obj.mapSeq (·.setIfInBounds j u)) } :=
  I.lstUpd hp ho (mapSeq_set its n j u) (r.set rv j) (by rw [List.length_set]; exact hz) s.toks
 by_cases h0:0≤k
 · have hk:k.toNat=j:=by
    rw [seqIndex_of h0 h4] at h1
    exact Option.some.inj h1
   exact PySem.W.ki_setAt ho h0 (by omega) (by rw [List.size_toArray,← hl]; exact h4) (by rw [hk]; exact ⟨_,I',q⟩)
 · have hk:(k+(its.toArray.size:Int)).toNat=j:=by
    rw [seqIndex_neg (by omega) h3] at h1
    rw [List.size_toArray,← hl]
    exact Option.some.inj h1
   exact PySem.W.ki_setBack ho (by omega) (by rw [List.size_toArray,← hl]; exact h3) (by omega) (by rw [hk]; exact ⟨_,I',q⟩)
theorem slice_bounds (lo hi:Option Int) (n:Nat):(sliceBounds lo hi none n).1=((HT.sIx n 0 lo:Nat):Int)∧(sliceBounds lo hi none n).2.1=((HT.sIx n n hi:Nat):Int)∧(sliceBounds lo hi none n).2.2=1:=by
 refine ⟨?_,?_,rfl⟩
 · cases lo with
   | none=>simp [sliceBounds,HT.sIx]
   | some i =>
    simp only [sliceBounds,HT.sIx,Option.getD_none,show (1:Int) > 0 by decide,if_true]
    by_cases h:i < 0
    · simp only [h,if_true] <;> omega
    · simp only [h,if_false] <;> omega
 · cases hi with
   | none=>simp [sliceBounds,HT.sIx]
   | some i =>
    simp only [sliceBounds,HT.sIx,Option.getD_none,show (1:Int) > 0 by decide,if_true]
    by_cases h:i < 0
    · simp only [h,if_true] <;> omega
    · simp only [h,if_false] <;> omega
theorem slicePick_cut (its:List Value) (lo hi:Option Int):slicePick its.toArray lo hi none=((its.drop (HT.sIx its.length 0 lo)).take (HT.sIx its.length its.length hi - HT.sIx its.length 0 lo)).toArray:=by
 obtain ⟨h1,h2,h3⟩:=slice_bounds lo hi its.toArray.size
 unfold slicePick
 rw [h1,h2,h3]
 simp only [sliceRange_one,pick_run,List.size_toArray] <;> rfl
def rSlL (K:PySem.W.Frag):V→Option Int→Option Int→Hp→VK→Prop:=fun x lo hi H Q=>∃ a xs,x=.ref a∧SqL K H a xs∧∀ p,H p=none→Q (.ref p) (upd H p (.lst (cutV xs lo hi)))
theorem sl_list:SlR X (rSlL X.K):=by
 intro pins s σ H x v vl vu lo hi sl Q I rx hs pl pu h
 obtain ⟨a,xs,rfl,hx,q⟩:=h
 cases rx
 obtain ⟨its,r,ht,hz⟩:=I.list hx
 have hlen:=r.length
 refine ⟨"list",_,slot_list_getitem.lookup,ht.isList.typeIs,?_⟩
 refine wpAny_getItem_list_slice ht.isList hs pl pu .none (by simp) ?_ (by rw [List.size_toArray] <;> omega)
 rw [slicePick_cut,← hlen]
 refine ⟨.ref s.heap.objs.size,_,I.laid (t':=s.toks) (o:=.lst (cutV xs lo hi)) (fun b ob q=>Heap.get?_push_of_some _ q) (Nat.le_refl _) ?_,rfl,q _ (I.hok.fresh (Nat.le_refl _))⟩
 exact ⟨Nat.le_trans (cutV_length xs lo hi) hz,_,0,(r.drop (HT.sIx xs.length 0 lo)).take (HT.sIx xs.length xs.length hi - HT.sIx xs.length 0 lo),Heap.get?_push_size _ rfl⟩
def flatV:V→Bool
 | .non=>true
 | .bl _=>true
 | .int _=>true
 | .str _=>true
 | _=>false
def eqV:V→V→Bool
 | .non,.non=>true
 | .bl a,.bl b=>a == b
 | .bl a,.int b=>(if a then 1 else 0) == b
 | .int a,.bl b=>a == (if b then 1 else 0)
 | .int a,.int b=>a == b
 | .str a,.str b=>a == b
 | _,_=>false
theorem eqAt_V {A:Around} {s:Shared} {y x:V} {u v:Value} (ry:RelV y u) (rx:RelV x v) (fy:flatV y=true) (fx:flatV x=true):SeqAt.EqAt A s u v (eqV y x):=by
 cases y with
 | non =>
  cases ry
  cases x with
  | non=>cases rx; exact SeqAt.EqAt.same _
  | bl b=>cases rx; exact SeqAt.EqAt.none_bool b
  | int b=>obtain ⟨t,rfl⟩:=rx; exact SeqAt.EqAt.none_int b t
  | str b=>obtain ⟨t,rfl⟩:=rx; exact SeqAt.EqAt.none_str b t
  | _=>exact absurd (show false=true from fx) Bool.false_ne_true
 | bl a =>
  cases ry
  cases x with
  | non=>cases rx; exact SeqAt.EqAt.bool_none a
  | bl b=>cases rx; exact SeqAt.EqAt.bool_bool a b
  | int b=>obtain ⟨t,rfl⟩:=rx; exact SeqAt.EqAt.bool_int a b t
  | str b=>obtain ⟨t,rfl⟩:=rx; exact SeqAt.EqAt.bool_str a b t
  | _=>exact absurd (show false=true from fx) Bool.false_ne_true
 | int a =>
  obtain ⟨t',rfl⟩:=ry
  cases x with
  | non=>cases rx; exact SeqAt.EqAt.int_none a t'
  | bl b=>cases rx; exact SeqAt.EqAt.int_bool a t' b
  | int b=>obtain ⟨t,rfl⟩:=rx; exact SeqAt.EqAt.int_int a t' b t
  | str b=>obtain ⟨t,rfl⟩:=rx; exact SeqAt.EqAt.int_str a t' b t
  | _=>exact absurd (show false=true from fx) Bool.false_ne_true
 | str a =>
  obtain ⟨t',rfl⟩:=ry
  cases x with
  | non=>cases rx; exact SeqAt.EqAt.str_none a t'
  | bl b=>cases rx; exact SeqAt.EqAt.str_bool a t' b
  | int b=>obtain ⟨t,rfl⟩:=rx; exact SeqAt.EqAt.str_int a t' b t
  | str b=>obtain ⟨t,rfl⟩:=rx; exact SeqAt.EqAt.str_str a t' b t
  | _=>exact absurd (show false=true from fx) Bool.false_ne_true
 | _=>exact absurd (show false=true from fy) Bool.false_ne_true
def eqU (x:V) (u:Value):Bool:=match u with
 | .none=>eqV .non x
 | .bool b=>eqV (.bl b) x
 | .int i _=>eqV (.int i) x
 | .str z _=>eqV (.str z) x
 | _=>false
theorem eqU_of {x y:V} {u:Value} (r:RelV y u) (f:flatV y=true):eqU x u=eqV y x:=by
 cases y with
 | non=>cases r; rfl
 | bl b=>cases r; rfl
 | int i=>obtain ⟨t,rfl⟩:=r; rfl
 | str z=>obtain ⟨t,rfl⟩:=r; rfl
 | _=>exact absurd (show false=true from f) Bool.false_ne_true
theorem any_eqU {x:V}:∀ {xs:List V} {us:List Value},Vals xs us→xs.all flatV=true→us.any (eqU x)=xs.any fun y=>eqV y x
 | _,_,.nil,_=>rfl
 | y :: xs,u :: us,.cons r t,f=>by
  rw [List.all_cons,Bool.and_eq_true] at f
  rw [List.any_cons,List.any_cons,eqU_of r f.1,any_eqU t f.2]
theorem mem_eqAt {A:Around} {s:Shared} {x:V} {v:Value} (rx:RelV x v) (fx:flatV x=true):∀ {xs:List V} {us:List Value},Vals xs us→xs.all flatV=true→∀ u∈us,SeqAt.EqAt A s u v (eqU x u)
 | _,_,.nil,_=>fun u hu=>by cases hu
 | y :: xs,u :: us,.cons r t,f=>fun u' hu=>by
  rw [List.all_cons,Bool.and_eq_true] at f
  rcases List.mem_cons.mp hu with rfl | hu
  · rw [eqU_of r f.1]; exact eqAt_V r rx f.1 fx
  · exact mem_eqAt rx fx t f.2 u' hu
def inV (x:V) (xs:List V):Bool:=xs.any fun y=>eqV y x
def rIn (K : PySem.W.Frag) (neg : Bool) : R2 := fun x y H Q => ∃ p xs, y = .ref p ∧ (SqL K H p xs ∨ SqT K H p xs) ∧ flatV x = true ∧ xs.all flatV = true ∧ Q (.bl (if neg then !inV x xs else inV x xs)) H
theorem op_in_seq:OpR X (compareOp .In) (rIn X.K false):=by
 intro pins s σ H x y v u Q I rx ry h
 obtain ⟨p,xs,rfl,hq,fx,fs,q⟩:=h
 cases ry
 rcases hq with hq | hq
 · obtain ⟨its,r,pl,hz⟩:=I.list hq
   refine SeqAt.in_listAt (eqU x) pl.isList (fun w hw=>mem_eqAt rx fx r fs w (by simpa using hw)) ⟨.bl _,H,I,rfl,?_⟩
   rw [show its.toArray.any (eqU x)=its.any (eqU x) by simp,any_eqU r fs]
   exact q
 · obtain ⟨its,r,pl,hz⟩:=I.tuple hq
   refine SeqAt.in_tupleAt (eqU x) pl (fun w hw=>mem_eqAt rx fx r fs w (by simpa using hw)) ⟨.bl _,H,I,rfl,?_⟩
   rw [show its.toArray.any (eqU x)=its.any (eqU x) by simp,any_eqU r fs]
   exact q
theorem op_notIn_seq:OpR X (compareOp .NotIn) (rIn X.K true):=by
 intro pins s σ H x y v u Q I rx ry h
 obtain ⟨p,xs,rfl,hq,fx,fs,q⟩:=h
 cases ry
 rcases hq with hq | hq
 · obtain ⟨its,r,pl,hz⟩:=I.list hq
   refine SeqAt.notIn_listAt (eqU x) pl.isList (fun w hw=>mem_eqAt rx fx r fs w (by simpa using hw)) ⟨.bl _,H,I,rfl,?_⟩
   rw [show its.toArray.any (eqU x)=its.any (eqU x) by simp,any_eqU r fs]
   exact q
 · obtain ⟨its,r,pl,hz⟩:=I.tuple hq
   refine SeqAt.notIn_tupleAt (eqU x) pl (fun w hw=>mem_eqAt rx fx r fs w (by simpa using hw)) ⟨.bl _,H,I,rfl,?_⟩
   rw [show its.toArray.any (eqU x)=its.any (eqU x) by simp,any_eqU r fs]
   exact q
theorem call_list_of:CallR X (.type "list") (fun xs H Q=>∃ p ys,xs=[.ref p]∧(SqL X.K H p ys∨SqT X.K H p ys)∧∀ l,H l=none→Q (.ref l) (upd H l (.lst ys))):=by
 intro pins s σ H xs us Q I r h
 obtain ⟨p,ys,rfl,hq,q⟩:=h
 obtain ⟨u,rfl,rx⟩:=vals1 r
 cases rx
 have fin:∀ (its:List Value),Vals ys its→ys.length≤sizeLine→∀ (h':Heap) (c':Nat),(∀ b o',s.heap.get? b=some o'→h'.get? b=some o') →
  h'.get? s.heap.objs.size=some { cls:=.type "list",dict:=none,data:=.seq its.toArray c',slots:=#[] }→EP X pins σ Q (.ref s.heap.objs.size) { s with heap:=h' }:=fun its r' hz h' c' kp e =>
  ⟨.ref s.heap.objs.size,_,I.laid (t':=s.toks) kp (Nat.le_refl _) (show ObjOk X.prog X.w _ h' _ (.lst ys) from ⟨hz,its,c',r',e⟩),rfl,q _ (I.hok.fresh (Nat.le_refl _))⟩
 rcases hq with hq | hq
 · obtain ⟨its,r',pl,hz⟩:=I.list hq
   have hlen:=r'.length
   obtain ⟨o,ho,hc,n,hd⟩:=pl.isList
   exact call_list_seq p (.inl rfl) ho hc hd (fun h' c' kp e=>fin its r' hz h' c' kp e) (by simp only [List.size_toArray] <;> omega)
 · obtain ⟨its,r',pl,hz⟩:=I.tuple hq
   have hlen:=r'.length
   obtain ⟨o,ho,hc,n,hd⟩:=pl
   exact call_list_seq p (.inr rfl) ho hc hd (fun h' c' kp e=>fin its r' hz h' c' kp e) (by simp only [List.size_toArray] <;> omega)
def tyV (K:PySem.W.Frag) (T:String) (x:V) (H:Hp):Prop:=match x with
 | .str _=>T="str"
 | .int _=>T="int"
 | .ref p=>(T="list"∧∃ xs,SqL K H p xs)∨(T="tuple"∧∃ o,K.lookup p=some o∧o.cls=.type "tuple"∧o.dict=none) ∨
  (T="dict"∧((∃ kvs,H p=some (.dK kvs))∨∃ kvs,H p=some (.dT kvs)))∨(T="set"∧∃ S n,H p=some (.set S n))
 | _=>False
theorem tyV_is {pins:List (Addr × Obj)} {σ:St} {H:Hp} {s:Shared} {T:String} {x:V} {v:Value} (I:Inv X pins σ H s) (r:RelV x v) (ty:tyV X.K T x H) :
 s.TypeIs v T∧∀ a,v=.ref a→∃ ob,s.heap.get? a=some ob∧ob.dict=none:=by
 cases x with
 | str z =>
  obtain ⟨t,rfl⟩:=r
  cases (show T="str" from ty)
  exact ⟨typeIs_str s z t,fun _ e=>nomatch e⟩
 | int i =>
  obtain ⟨t,rfl⟩:=r
  cases (show T="int" from ty)
  exact ⟨typeIs_int s i t,fun _ e=>nomatch e⟩
 | ref p =>
  cases r
  rcases ty with ⟨rfl,xs,hq⟩ | ⟨rfl,o,hk,hc,hd⟩ | ⟨rfl,hk⟩ | ⟨rfl,S,n,hk⟩
  · obtain ⟨its,_,pl,_⟩:=I.list hq
    refine ⟨pl.isList.typeIs,fun a e=>?_⟩
    cases e
    obtain ⟨o,n,e,c,hd,_⟩:=pl
    exact ⟨o,e,hd⟩
  · refine ⟨⟨o,I.kIn p o hk,hc⟩,fun a e=>?_⟩
    cases e
    exact ⟨o,I.kIn _ o hk,hd⟩
  · have z:∃ o,s.heap.get? p=some o∧o.ExactDict:=by
     rcases hk with ⟨kvs,hk⟩ | ⟨kvs,hk⟩
     · obtain ⟨_,_,_,_,o,_,_,e,ex,_⟩:=I.hok p _ hk
       exact ⟨o,e,ex⟩
     · obtain ⟨_,_,_,_,o,_,_,e,ex,_⟩:=I.hok p _ hk
       exact ⟨o,e,ex⟩
    obtain ⟨o,e,ex⟩:=z
    refine ⟨⟨o,e,ex.1⟩,fun a e2=>?_⟩
    cases e2
    exact ⟨o,e,ex.2.1⟩
  · obtain ⟨o,_,_,_,e,ex,_⟩:=I.hok p _ hk
    refine ⟨⟨o,e,ex.1⟩,fun a e2=>?_⟩
    cases e2
    exact ⟨o,e,ex.2.1⟩
 | _=>exact False.elim ty
def tBM0 (K:PySem.W.Frag) (T:String) (r:V→List V→Hp→VK→Prop) (to:TE):TE:=fun σ H Q=>to σ H fun x H1=>tyV K T x H1∧r x [] H1 Q
def tBM (K:PySem.W.Frag) (T:String) (r:V→List V→Hp→VK→Prop) (to:TE) (t:TA):TE:=fun σ H Q=>to σ H fun x H1=>tyV K T x H1∧t σ H1 fun xs H2=>r x xs H2 Q
variable {o e:Expr} {es:List Expr} {to:TE} {t:TA} {name:Str} {apos cpos:Pos} {T id:String} {r:V→List V→Hp→VK→Prop}
theorem pe_bm (pa:PlainAttrs T) (slot:Slot T name id) (hty:typeOf (.builtin id)=pure (.type "method_descriptor")) (hm:MtR X id r) (ho:PE X o to) (ha:PA X (e :: es) t)
 (hbase:attributeBase o name X.env (eval o X.env)=eval o X.env:=by rfl)
 (hfew : ((backTo cpos (starEach (e :: es) X.env)).all (fun x => !x.1) && (backToKw cpos (keywordEach [] X.env)).all (fun x => x.1.isSome)
  && decide ((e :: es).length+([]:List Keyword).length+(if ([]:List Keyword).isEmpty then 0 else 1) < 30))=true:=by rfl)
 (hline:(apos.endLine == cpos.line)=true:=by rfl) (hs:starEach (e :: es) X.env=(false,eval e X.env) :: starEach es X.env:=by rfl) (hplain:(backTo cpos (starEach es X.env)).any (·.1)=false:=by rfl) :
 PE X (.Call (.Attribute o name apos) (e :: es) [] cpos) (tBM X.K T r to t):=by
 intro pins s σ H Q I h
 refine wpAny_Call_method_late hbase hfew hline rfl (thn (ho pins s σ H _ I h) fun v s1 ⟨x,H1,I1,r1,ty,q1⟩=>?_)
 obtain ⟨h1,h2⟩:=tyV_is I1 r1 ty
 refine ⟨T,id,pa,slot,hty,h1,h2,?_⟩
 have hA:=ha cpos pins s1 σ H1 _ I1 q1
 rw [hs] at hA ⊢
 refine Calls.callWith_builtin (by show (false || (backTo cpos (starEach es X.env)).any (·.1))=false; rw [hplain] <;> rfl) (Calls.evalArgs_plain ?_)
 exact thn hA fun us s2 ⟨vs,H2,I2,r2,q2⟩=>hm pins s2 σ H2 x vs v us Q I2 r1 r2 q2
/- xs.append(e),list.index on a module's tuple .. are MtR facts of 06m -/
end
end L2
namespace L2
open PySem PySem.Spec PyProof.Rows
def MtM (X:Cx) (id:String) (r:V→List V→Hp→VK→Prop):Prop :=
 ∀ (pins:List (Addr × Obj)) (s:Shared) (σ:St) (H:Hp) (x:V) (xs:List V) (v:Value) (us:List Value) (Q:VK),Inv X pins σ H s→RelV x v→Vals xs us→r x xs H Q →
  wpAny (model X.prog X.w) X.A (call (.builtin id) (v :: us)) (EP X pins σ Q) X.xe s
theorem Vals.one:∀ {x:V} {us:List Value},Vals [x] us→∃ u,us=[u]∧RelV x u
 | _,_,.cons r .nil=>⟨_,rfl,r⟩
theorem Vals.eraseIdx:∀ {xs:List V} {us:List Value} (i:Nat),Vals xs us→Vals (xs.eraseIdx i) (us.eraseIdx i)
 | _,_,_,.nil=>.nil
 | _,_,0,.cons _ t=>t
 | _,_,i+1,.cons r t=>.cons r (Vals.eraseIdx i t)
theorem Vals.rep {xs:List V} {us:List Value} (h:Vals xs us):∀ k:Nat,Vals (List.replicate k xs).flatten (List.replicate k us).flatten
 | 0=>.nil
 | k+1=>by
  rw [List.replicate_succ,List.replicate_succ,List.flatten_cons,List.flatten_cons]
  exact Vals.append h (Vals.rep h k)
theorem len_erase {α:Type}:∀ (l:List α) (i:Nat),(l.eraseIdx i).length≤l.length
 | [],_=>Nat.le_refl _
 | _ :: _,0=>Nat.le_succ _
 | _ :: r,i+1=>Nat.succ_le_succ (len_erase r i)
theorem foldl_rep (its:List Value):∀ (k:Nat) (acc:List Value),
 List.foldl (fun x1 x2=>x1++x2) acc.toArray (List.replicate k its.toArray)=(acc++(List.replicate k its).flatten).toArray
 | 0,acc=>by simp
 | k+1,acc=>by
  have e:acc.toArray++its.toArray=(acc++its).toArray:=by simp
  have e2:(acc++its)++(List.replicate k its).flatten=acc++(List.replicate (k+1) its).flatten:=by
   rw [List.replicate_succ,List.flatten_cons,List.append_assoc]
  rw [← e2,← foldl_rep its k (acc++its),← e,List.replicate_succ,List.foldl_cons]
section
variable {X:Cx} {pins:List (Addr × Obj)} {σ:St} {H:Hp} {s:Shared} {l b:Addr} {xs ys zs:List V}
theorem Inv.lset {its its':List Value} {n:Nat} {f:Array Value→Array Value} {t':Nat} (I:Inv X pins σ H s) (hH:H l=some (.lst xs))
 (e:s.heap.get? l=some { cls:=.type "list",data:=.seq its.toArray n }) (hf:f its.toArray=its'.toArray) (hv:Vals ys its') (hz:ys.length≤sizeLine) :
 Inv X pins σ (upd H l (.lst ys)) { s with heap:=s.heap.update l (Obj.mapSeq f),toks:=t' }:=by
 have q:=PySem.IsL.update e f
 rw [hf] at q
 refine I.write (x:=l) (e:=l) (by rw [hH]; exact trivial) (.inl rfl) (fun b' u hb hu=>(Heap.get?_update_other s.heap (Obj.mapSeq f) (Ne.symm hb)).trans hu) ⟨_,q⟩ ?_
 exact ⟨hz,its',_,hv,q⟩
theorem Inv.lnew {its:List Value} {t':Nat} (I:Inv X pins σ H s) (hv:Vals ys its) (hz:ys.length≤sizeLine) :
 Inv X pins σ (upd H s.heap.objs.size (.lst ys)) { s with heap:=s.heap.push { cls:=.type "list",data:=.seq its.toArray },toks:=t' } :=
 I.laid (fun _ _ q=>Heap.get?_push_of_some _ q) (Nat.le_refl _) ⟨hz,its,0,hv,Heap.get?_push_size _ rfl⟩
theorem Inv.fresh (I:Inv X pins σ H s):H s.heap.objs.size=none:=I.hok.fresh (Nat.le_refl _)
theorem Inv.lstM (I:Inv X pins σ H s) (hH:H l=some (.lst xs)):xs.length≤sizeLine∧∃ (its:List Value) (n:Nat),Vals xs its∧xs.length=its.length∧s.heap.get? l=some { cls:=.type "list",data:=.seq its.toArray n }:=by
 obtain ⟨z,its,n,r,e⟩:=I.hok l _ hH
 exact ⟨z,its,n,r,r.length,e⟩
theorem notLongL {n:Nat} (h:n≤sizeLine):Builtin.List.listTooLong n=false:=by
 unfold Builtin.List.listTooLong
 exact decide_eq_false (by omega)
end
section
variable {X:Cx}
def rAppend:V→List V→Hp→VK→Prop:=fun x vs H Q=>∃ l xs y,x=.ref l∧vs=[y]∧H l=some (.lst xs)∧xs.length < sizeLine∧Q .non (upd H l (.lst (xs++[y])))
theorem mt_append:MtM X "list.append" rAppend:=by
 intro pins s σ H x vs v us Q I rx rv h
 obtain ⟨l,xs,y,rfl,rfl,hH,hz,q⟩:=h
 cases rx
 obtain ⟨u,rfl,ru⟩:=rv.one
 obtain ⟨z,its,n,r,hl,e⟩:=I.lstM hH
 refine call_meets F.slot_list_append ⟨_,e,rfl⟩ F.entry_list_append (F.args_list_append_2 _ _) (PySem.list_append l its.toArray n u (by rw [List.size_toArray]; omega)) ⟨e,?_⟩
 refine ⟨.non,_,I.lset (its':=its++[u]) hH e (by simp) (r.append (.cons ru .nil)) ?_,rfl,q⟩
 rw [List.length_append,List.length_singleton]
 omega
def rPopAt:V→List V→Hp→VK→Prop:=fun x vs H Q=>∃ l xs i k y,x=.ref l∧vs=[.int i]∧H l=some (.lst xs) ∧ -(2 ^ 63)≤i∧i < 2 ^ 63∧seqIndex? i xs.length=some k∧xs[k]?=some y∧Q y (upd H l (.lst (xs.eraseIdx k)))
theorem mt_popAt:MtM X "list.pop" rPopAt:=by
 intro pins s σ H x vs v us Q I rx rv h
 obtain ⟨l,xs,i,k,y,rfl,rfl,hH,h1,h2,hk,hy,q⟩:=h
 cases rx
 obtain ⟨u,rfl,ru⟩:=rv.one
 obtain ⟨t,rfl⟩:=ru
 obtain ⟨z,its,n,r,hl,e⟩:=I.lstM hH
 obtain ⟨w,hw,rw'⟩:=r.get hy
 refine call_meets F.slot_list_pop ⟨_,e,rfl⟩ F.entry_list_pop (F.args_list_pop_2 _ _)
  (MeetsSeq.list_pop_at l its.toArray n i t k w (fitsIndex_both h1 h2) (by rw [List.size_toArray,← hl]; exact hk) (by rw [← Array.getElem?_toList]; exact hw) (by rw [List.size_toArray]; omega)) ⟨e,?_⟩
 refine ⟨y,_,I.lset (its':=its.eraseIdx k) hH e ?_ (r.eraseIdx k) ?_,rw',q⟩
 · show its.toArray.eraseIdxIfInBounds k=(its.eraseIdx k).toArray
   rw [List.eraseIdxIfInBounds_toArray]
 · have:=len_erase xs k
   omega
def rCat:R2:=fun x y H Q=>∃ l b xs zs,x=.ref l∧y=.ref b∧H l=some (.lst xs)∧H b=some (.lst zs)∧xs.length+zs.length≤sizeLine∧∀ p,H p=none→Q (.ref p) (upd H p (.lst (xs++zs)))
theorem op_cat:OpR X (binaryOp .Add) rCat:=by
 intro pins s σ H x y v u Q I rx ry h
 obtain ⟨l,b,xs,zs,rfl,rfl,hH,hB,hz,q⟩:=h
 cases rx
 cases ry
 obtain ⟨z,its,n,r,hl,e⟩:=I.lstM hH
 obtain ⟨z2,its2,n2,r2,hl2,e2⟩:=I.lstM hB
 refine PySem.P.add_list e e2 ?_ (by rw [List.size_toArray,List.size_toArray]; omega)
 have ea:its.toArray++its2.toArray=(its++its2).toArray:=by simp
 rw [ea]
 exact ⟨.ref _,_,I.lnew (t':=s.toks) (r.append r2) (by rw [List.length_append]; omega),rfl,q _ I.fresh⟩
def rRep:R2:=fun x y H Q=>∃ l k xs,x=.ref l∧y=.int k∧H l=some (.lst xs) ∧ -(2 ^ 63)≤k∧k < 2 ^ 63∧xs.length * k.toNat≤sizeLine ∧
 ∀ p,H p=none→Q (.ref p) (upd H p (.lst (List.replicate k.toNat xs).flatten))
theorem len_rep {α:Type} (xs:List α) (k:Nat):(List.replicate k xs).flatten.length=k * xs.length:=by
 induction k with
 | zero=>simp
 | succ k ih=>rw [List.replicate_succ,List.flatten_cons,List.length_append,ih,Nat.succ_mul,Nat.add_comm]
theorem op_rep:OpR X (binaryOp .Mult) rRep:=by
 intro pins s σ H x y v u Q I rx ry h
 obtain ⟨l,k,xs,rfl,rfl,hH,h1,h2,hz,q⟩:=h
 cases rx
 obtain ⟨t,rfl⟩:=ry
 obtain ⟨z,its,n,r,hl,e⟩:=I.lstM hH
 have hlen:its.toArray.size * k.toNat≤sizeLine:=by rw [List.size_toArray,← hl]; exact hz
 have hcap:¬ its.toArray.size * k.toNat > (2 ^ 63 - 1) / 8:=by
  have:(sizeLine:Nat)≤(2 ^ 63 - 1) / 8:=by decide
  omega
 have hfit : ¬ (!Builtin.List.listFitsIndex k) = true := by
  rw [fitsIndex_both h1 h2]
  exact Bool.false_ne_true
 have hlong:¬ Builtin.List.listTooLong (its.toArray.size * k.toNat)=true:=by
  rw [notLongL hlen]
  exact Bool.false_ne_true
 have hnew:List.foldl (fun x1 x2=>x1++x2) #[] (List.replicate (if its.toArray.isEmpty=true then 0 else k.toNat) its.toArray)=(List.replicate k.toNat its).flatten.toArray:=by
  have f0:∀ m:Nat,List.foldl (fun x1 x2=>x1++x2) #[] (List.replicate m its.toArray)=(List.replicate m its).flatten.toArray:=fun m=>by
   have:=foldl_rep its m []
   rw [List.nil_append] at this
   exact this
  rw [f0]
  cases its with
  | nil=>simp
  | cons a r'=>rw [if_neg (by simp)]
 refine wpAny_binaryOp_repeat_ref (T:="list") (U:="int") (by decide) ⟨_,e,rfl⟩ (fun s'=>typeIs_int s' k t) noFill_list_mul F.fills_int_mul F.slot_int_rmul repeat_list F.slot_int_index.lookup
  (call_meets F.slot_int_rmul (typeIs_int s k t) F.entry_int_rmul (F.args_int_rmul_2 _ _) (int___rmul___int_list k t l its.toArray n)
   ⟨e,rfl,⟨_,e,rfl⟩,call_meets F.slot_list_mul ⟨_,e,rfl⟩ F.entry_list_mul (F.args_list_mul_2 _ _) (AutoListH.list___mul___list_int_3 l its.toArray n k t hfit hcap hlong) ⟨e,?_⟩⟩)
 rw [hnew]
 exact ⟨.ref _,_,I.lnew (t':=s.toks) (r.rep k.toNat) (by rw [len_rep,Nat.mul_comm]; exact hz),rfl,q _ I.fresh⟩
end
section
variable {prog:Program} {w:World} {A:Around} {E:Value→Shared→Prop} {s:Shared}
end
section
variable {X:Cx}
end
end L2
namespace Att
open PySem PySem.W PySem.Calls PyProof.Rows
theorem ints_of_wellAll {P:Params} {h:Heap}:∀ (ns:List Int) (vs:List Value),WellAll P h vs (ns.map WData.int)→IntsAre vs ns:=by
 intro ns
 induction ns with
 | nil =>
  intro vs w
  rw [List.map_nil] at w
  cases w
  exact .nil
 | cons n ns ih =>
  intro vs w
  rw [List.map_cons] at w
  cases w with
  | cons a b =>
   cases a
   exact .cons _ _ (ih _ b)
theorem script_of {l:OpenLaw} {n:Nat} (hn:l.most=some n) {P:Params} {h:Heap} {args:List WData} {vals:List Value}
 (hpre:l.row.toRowW.claim.pre args=true) (hwl:WellAll P h vals args) :
 ∃ a vs ns,vals=[Value.ref a]∧args=[WData.list (ns.map WData.int)]∧h.get? a=some { cls:=.type "list",data:=.seq vs.toArray }∧IntsAre vs ns∧ns.length≤n:=by
 have hsh:WShape.hasAll [] args [.list .int]=true:=(pre_splitW hpre).1
 have hc:l.pre.holds [] { args:=args }=true:=(pre_splitW hpre).2
 obtain ⟨d,r,rfl,h1,h2⟩:=hasAllW_cons hsh
 obtain rfl:=hasAllW_nil h2
 obtain ⟨xs,rfl,h3⟩:=hasW_list h1
 obtain ⟨ns,rfl⟩:=items_int h3
 have hlen:ns.length≤n:=by
  unfold OpenLaw.pre at hc
  have h4:(WTm.not (.lt (.lit (.int (n:Int))) (.len (.arg 0)))).holds [] { args:=[.list (ns.map .int)] }=true:=by
   have h4:=(holds_andW hc).1
   rw [hn] at h4
   exact h4
  have h5:=condW_of h4 (w_not (w_lt w_lit (w_len_list (w_arg rfl))))
  rw [List.length_map] at h5
  refine Nat.le_of_not_lt fun q=>?_
  have q':(n:Int) < ((ns.length:Nat):Int):=by omega
  first
   | (rw [decide_eq_true q'] at h5; exact absurd h5 (by decide))
   | (simp at h5; omega)
 cases hwl with
 | cons w1 w2 =>
  cases w2
  cases w1 with
  | list ho hall=>exact ⟨_,_,ns,rfl,rfl,ho,ints_of_wellAll ns _ hall,hlen⟩
theorem post_true (l:OpenLaw) (args:List WData):l.row.toRowW.claim.post args (.bool true) args=true :=
 postW_of (r:=l.row.toRowW) (X:=(true == true))
  (show WShape.has [] (.bool true) .bool=true by first | rfl | decide | simp [WShape.has,WShape.arms,WShape.armsAll])
  (show (WTm.eq .res (.lit (.bool true))).value [] { args:=args,res:=some (.bool true),after:=args }=some (.bool (true == true)) from w_eq_bool (w_res rfl) w_lit) rfl
theorem attach_call {l:OpenLaw} {n:Nat} {q:Program} {loose:List Str} {XP:(Str→Option Value)→Heap→Prop} {YP:World→Heap→Prop} {d:DefRec}
 (hn:l.most=some n) (hdf:d.params.defaults=[])
 (call:∀ (w:World) (s₀ s₁:Shared) (mg mb:Str→Option Value) (fa:Addr) (o:Obj) (pm cd doc:Value) (a:Addr) (vs:List Value) (ns:List Int),
  Ground q loose [] XP w s₀ mg mb s₁.heap→YP w s₁.heap →
  s₁.heap.get? fa=some o→o.data=.func (docDef d.name d.params d.body d.scope pm cd doc)→s₁.heap.CodeRec cd d.name→mg d.name=some (.ref fa) →
  s₁.heap.get? a=some { cls:=.type "list",data:=.seq vs.toArray }→IntsAre vs ns→ns.length≤n→s₁.gens=#[] →
  codeAny (model l.prog w) callerA (.call (.ref fa) ⟨[.ref a],[]⟩) (fun r s'=>r=.ok (.ret (.bool true))∧OldK s₁.heap s'.heap∧s'.os=s₁.os∧AllBare s'.gens) s₁) :
 WalkO q loose XP YP l.row.toRowW d [] (fun f vs=>PySem.call f vs):=by
 intro w s₀ s₁ mg mb G Y fa o pm cd doc dV kV ho hd hcd hD hmg hg args vals as hpre hlay hrd hwl hlo
 obtain rfl:dV=.none:=Dflts.none hD hdf
 obtain rfl:kV=.none:=Dflts.noKw hD
 obtain ⟨a,vs,ns,rfl,rfl,hobj,hints,hlen⟩:=script_of hn hpre hwl
 refine enter_call (codeAny_mono (call w s₀ s₁ mg mb fa o pm cd doc a vs ns G Y ho (fd_plain hd) hcd hmg hobj hints hlen hg) fun r s' hq=>?_)
 obtain ⟨rfl,h2,h3,h4⟩:=hq
 exact ⟨.inl ⟨.bool true,.bool true,[],rfl,fun _=>rfl,.bool true,post_true l _,fun _=>⟨List.Pairwise.nil,fun _ hm=>(nomatch hm)⟩⟩,h2,h3,h4⟩
section
variable {prog:Program} {w:World} {A:Around} {E:Value→Shared→Prop} {s:Shared} {K:Frag}
end
end Att
namespace L2
open PySem PySem.Spec PyProof.Rows
theorem vals_ints:∀ {vs:List Value} {ns:List Int},IntsAre vs ns→Vals (ns.map V.int) vs
 | _,_,.nil=>.nil
 | _,_,.cons n t h=>.cons ⟨t,rfl⟩ (vals_ints h)
def Only (H:Hp):Prop:=∀ b,H b=none∨∃ o xs,H b=some (.frz o (.lst xs))
theorem law_call {P:Program} {w:World} {K:PySem.W.Frag} {mg mb:Str→Option Value} {CX:CXT} {k:Nat} {fa a:Addr} {fd:FuncData} {x:Str} {sp:Sp} {s₁:Shared} {vs:List Value} {ns:List Int}
 (KX:K.In s₁.heap) (hns:s₁.heap.Ns mainGlobals mg) (hb:s₁.heap.Ns builtinsNs mb) (hbb:∀ x:Str,x ≠ "__name__"→mb x=bootBuiltins x) (hlim:s₁.heap.NoLimit) (hg:s₁.gens=#[])
 (ha:s₁.heap.get? a=some { cls:=.type "list",data:=.seq vs.toArray }) (hi:IntsAre vs ns) (hl:ns.length≤sizeLine) (hr:Room k callerA)
 (F:∀ base:Heap,K.In base→base.Ns mainGlobals mg→FnOk P w K mg base CX k fa fd [x] sp) (hbind:∀ (s:Shared) (u:Value),BindsTo s fd ⟨[u],[]⟩ [(x,u)])
 (hsp:∀ H:Hp,Only H→SqL K H a (ns.map V.int)→sp [.ref a] H (fun v _=>v=.bl true) fun _ _ _=>False)
 (hCX:∀ H e s',CX [] H s₁ (fun _ _ _=>False) e s'→False) :
 codeAny (model P w) callerA (.call (.ref fa) ⟨[.ref a],[]⟩) (fun r s'=>r=.ok (.ret (.bool true))∧OldK s₁.heap s'.heap∧s'.os=s₁.os∧AllBare s'.gens) s₁:=by
 have rv:=vals_ints hi
 have lenV:=hi.length
 have core:∀ H:Hp,Only H→SqL K H a (ns.map V.int)→HOk P w H s₁.heap→(∀ b,H b ≠ none→b=a)→(H a ≠ none→K.lookup a=none) →
  codeAny (model P w) callerA (.call (.ref fa) ⟨[.ref a],[]⟩) (fun r s'=>r=.ok (.ret (.bool true))∧OldK s₁.heap s'.heap∧s'.os=s₁.os∧AllBare s'.gens) s₁:=by
  intro H hO hS hok hA hK
  have base_of:∀ {b:Addr} {o:Obj},s₁.heap.get? b=some o→H b=none→(hidT s₁.heap H).get? b=some o:=fun e n=>hidT_get e n
  have noA:∀ {b:Addr} {o:Obj} {es:Array DictEntry} {ep:Nat},s₁.heap.get? b=some o→o.data=.dict es ep→H b=none:=fun {b o es ep} e d=>by
   cases q:H b with
   | none=>rfl
   | some u =>
    have e':b=a:=hA b (by rw [q]; simp)
    subst e'
    rw [ha] at e; cases e
    have d':Data.seq vs.toArray _=Data.dict es ep:=d
    cases d'
  have nsK:∀ {b:Addr} {m:Str→Option Value},s₁.heap.Ns b m→(hidT s₁.heap H).Ns b m:=fun {b m} ⟨o,es,ep,e,d,r⟩=>⟨o,es,ep,base_of e (noA e d),d,r⟩
  have hKb:K.In (hidT s₁.heap H):=fun b o e=>base_of (KX b o e) (by
   cases q:H b with
   | none=>rfl
   | some u =>
    have e':b=a:=hA b (by rw [q]; simp)
    subst e'
    rw [hK (by rw [q]; simp)] at e; cases e)
  have hM:Mod K mg (hidT s₁.heap H):=⟨hKb,nsK hns,⟨mb,nsK hb,hbb⟩,let ⟨mc,h1,h2⟩:=hlim; ⟨mc,nsK h1,h2⟩⟩
  have e0:Env0 P w K mg (hidT s₁.heap H) callerA [] s₁ H:=⟨rfl,hM,fun b o e=>of_hidT e,Nat.le_of_eq (hidT_size _ _),trivial,fun b hb=>absurd (show b∈([]:List Addr) from hb) (by simp),hok,.of_eq hg⟩
  refine codeAny_mono ((F _ hKb (nsK hns)).run callerA [] s₁ H ⟨[.ref a],[]⟩ [.ref a] [.ref a] _ _ hr e0 (hbind s₁ (.ref a)) (.cons rfl .nil) (hsp H hO hS)) fun r s' h=>?_
  cases r with
  | error e=>exact (hCX H e s' h).elim
  | ok fl =>
   cases fl with
   | next=>exact False.elim h
   | brk=>exact False.elim h
   | cont=>exact False.elim h
   | ret u =>
    obtain ⟨v,H',os,bare,un,hok',r',q⟩:=h
    have q':v=.bl true:=q
    subst q'
    obtain rfl:u=Value.bool true:=r'
    refine ⟨rfl,OldK.of_keep fun b o e=>?_,os,bare⟩
    cases q:H b with
    | none=>exact un.keep b o e q (by intro z; exact absurd (show b∈([]:List Addr) from z) (by simp)) (by simp)
    | some u =>
     rcases hO b with z | ⟨ob,xs,z⟩
     · rw [q] at z; cases z
     · have z2:=un.frzs b ob _ z
       obtain ⟨e1,_⟩:=hok b _ z
       obtain ⟨e2,_⟩:=hok' b _ z2
       rw [e] at e1; cases e1
       exact e2
 cases hk:K.lookup a with
 | some o =>
  have e:=KX a o hk
  rw [ha] at e
  cases e
  refine core (fun _=>none) (fun _=>.inl rfl) (.inr ⟨_,vs.toArray,_,hk,rfl,rfl,rfl,by rw [List.size_toArray,lenV]; exact hl,by simpa using rv⟩) (fun b u z=>by have z':(none:Option HO)=some u:=z; cases z') (fun b z=>absurd rfl z) fun z=>absurd rfl z
 | none =>
  refine core (fun b=>if b=a then some (.frz { cls:=.type "list",data:=.seq vs.toArray } (.lst (ns.map V.int))) else none) (fun b=>?_) (.inl (.inr ⟨{ cls:=.type "list",data:=.seq vs.toArray },if_pos rfl⟩)) (fun b u z=>?_) (fun b z=>?_) fun _=>hk
  · by_cases hb:b=a
    · exact .inr ⟨_,_,if_pos hb⟩
    · exact .inl (if_neg hb)
  · by_cases hb:b=a
    · have z':=(if_pos hb).symm.trans z
      cases z'
      subst hb
      exact ⟨ha,by rw [List.length_map]; exact hl,vs,_,rv,ha⟩
    · have z':=(if_neg hb).symm.trans z
      cases z'
  · by_cases hb:b=a
    · exact hb
    · exact absurd (if_neg hb) z
end L2
namespace L2
open PySem PySem.Spec PyProof.Rows
abbrev KOf {K:PySem.W.Frag} {h:Heap} (_:K.In h):PySem.W.Frag:=K
theorem walk_of {l:PySem.W.OpenLaw} {n k:Nat} {q:Program} {loose:List Str} {XP:(Str→Option Value)→Heap→Prop} {YP:World→Heap→Prop} {d:DefRec} {K:Params→PySem.W.Frag} {CX:World→CXT} {sp:World→Sp} {x:Str}
 (hn:l.most=some n) (hn2:n≤sizeLine) (hdf:d.params.defaults=[]) (hr:Room k callerA)
 (hY:∀ (w:World) (h:Heap),YP w h→(K w.params).In h)
 (F:∀ (w:World) (mg:Str→Option Value) (fa:Addr) (h:Heap),(K w.params).In h→h.Ns mainGlobals mg→mg d.name=some (.ref fa) →
  ∃ fd:FuncData,(∀ (s:Shared) (u:Value),BindsTo s fd ⟨[u],[]⟩ [(x,u)]) ∧
   ∀ base:Heap,(K w.params).In base→base.Ns mainGlobals mg→FnOk l.prog w (K w.params) mg base (CX w) k fa fd [x] (sp w))
 (hsp:∀ (w:World) (H:Hp) (a:Addr) (ns:List Int),ns.length≤n→Only H→SqL (K w.params) H a (ns.map V.int)→sp w [.ref a] H (fun v _=>v=.bl true) fun _ _ _=>False)
 (hCX:∀ (w:World) (H:Hp) (s:Shared) (e:Value) (s':Shared),CX w [] H s (fun _ _ _=>False) e s'→False) :
 PySem.W.WalkO q loose XP YP l.row.toRowW d [] (fun f vs=>PySem.call f vs):=by
 refine Att.attach_call hn hdf fun w s₀ s₁ mg mb fa o pm cd doc a vs ns G Y ho hd hcd hmg hobj hints hlen hg=>?_
 have KX:=hY w _ Y
 obtain ⟨fd,hb,hF⟩:=F w mg fa _ KX G.T.g hmg
 exact law_call KX G.T.g G.T.b G.T.builtins G.T.nolimit hg hobj hints (Nat.le_trans hlen hn2) hr hF hb (fun H hO hS=>hsp w H a ns hlen hO hS) fun H e s'=>hCX w H s₁ e s'
theorem walk_ofK {l:PySem.W.OpenLaw} {n k:Nat} {q:Program} {loose:List Str} {XP:(Str→Option Value)→Heap→Prop} {YP:World→Heap→Prop} {d:DefRec} {K:Params→PySem.W.Frag} {CX:CXT} {sp:PySem.W.Frag→Sp} {x:Str}
 (hn:l.most=some n) (hn2:n≤sizeLine) (hdf:d.params.defaults=[]) (hr:Room k callerA)
 (hY:∀ (w:World) (h:Heap),YP w h→(K w.params).In h)
 (F:∀ (w:World) (mg:Str→Option Value) (fa:Addr) (h:Heap),(K w.params).In h→h.Ns mainGlobals mg→mg d.name=some (.ref fa) →
  ∃ fd:FuncData,(∀ (s:Shared) (u:Value),BindsTo s fd ⟨[u],[]⟩ [(x,u)]) ∧
   ∀ base:Heap,(K w.params).In base→base.Ns mainGlobals mg→FnOk l.prog w (K w.params) mg base CX k fa fd [x] (sp (K w.params)))
 (hsp:∀ (K:PySem.W.Frag) (H:Hp) (a:Addr) (ns:List Int),ns.length≤n→Only H→SqL K H a (ns.map V.int)→sp K [.ref a] H (fun v _=>v=.bl true) fun _ _ _=>False)
 (hCX:∀ (H:Hp) (s:Shared) (e:Value) (s':Shared),CX [] H s (fun _ _ _=>False) e s'→False) :
 PySem.W.WalkO q loose XP YP l.row.toRowW d [] (fun f vs=>PySem.call f vs) :=
 walk_of (K:=K) (CX:=fun _=>CX) (sp:=fun w=>sp (K w.params)) hn hn2 hdf hr hY F (fun w H a ns h1 h2 h3=>hsp (K w.params) H a ns h1 h2 h3) fun _ H s e s'=>hCX H s e s'
end L2
/- THE LAST THEOREM (shape; LID,My.* are yours):
 My.Adr: a structure of the addresses that your layer names (classes,functions); My.Txt K t: a structure (Prop) of the equations over K;
 My.txt_mk:{K} {implicit addresses ..} (e1:nsIn K mainGlobals "law"=some (some (.ref f))) (e2:K.lookup f=some ⟨oc,od,.func (fnOf "law" "law" params body scope dV kV doc pm an cdv ct),sl⟩) (e3:codeIn K cdv "law"=true) .. : ∃ t,My.Txt K t
set_option maxRecDepth 100000 in
set_option maxHeartbeats 0 in
theorem PySem.Challenge.cw_LID_holds : PySem.Challenge.rw_LID.Holds := by
 w_on; o_law; k_head; (case hw=>w_witness2)
 k_fill
 refine L2.walk_of (l:=PySem.Challenge.rw_LID) (n:=63) (k:=40) (x:="script") (CX:=fun w=>..) (sp:=fun _=>My.sp_law) rfl (by decide) rfl ⟨rfl,by decide,by decide⟩ (fun w h Y=>PySem.W.kIn_of Y) ?F ?S ?C
 case F =>
  intro w mg fa h KX G hmg
  have T:∃ t,My.Txt (L2.KOf KX) t:=by
   dsimp only [L2.KOf]                          -- K must stand as «<heap const> w.params» for k_is
   refine' My.txt_mk ?e1 ?e2 ?e3 ..
   (case e1=>PySem.W.k_is)                    -- in the order: a name->its address->its object->its parts
   (case e2=>PySem.W.k_is)
   ..
  obtain ⟨t,T⟩:=T
  have e0:=hmg.symm.trans (PySem.W.mg_of KX G T.law)
  cases e0                                       -- fa is the law's own address
  exact ⟨_,fun s u=>.of_eq rfl,fun base kb nb=>My.law_fn T kb nb⟩     -- if «.of_eq rfl» comes too early: refine' ⟨_,?b,fun base kb nb=>My.law_fn T kb nb⟩; exact fun s u=>.of_eq rfl
 case S=>exact fun w H a ns hl hO hS=>..
 case C=>exact ..
(the tactic k_is has no namespace: write k_is) -/
namespace L2
open PySem PySem.Spec PyProof.Rows
def inClass (s:Stmt) (j:Nat):Stmt:=match s with
 | .ClassDef _ _ _ body _ _ _ _ _ _ _=>body.getD j (.Pass ⟨0,0,0,0⟩)
 | _=>.Pass ⟨0,0,0,0⟩
def defArgs (s:Stmt):Arguments:=match s with
 | .FunctionDef _ a _ _ _ _ _ _ _ _=>a
 | _=>{ posonlyargs:=[],args:=[],vararg:=none,kwonlyargs:=[],kw_defaults:=[],kwarg:=none,defaults:=[] }
def defBody (s:Stmt):List Stmt:=match s with
 | .FunctionDef _ _ b _ _ _ _ _ _ _=>b
 | _=>[]
def defScope (s:Stmt):Scope:=match s with
 | .FunctionDef _ _ _ _ _ _ sc _ _ _=>sc
 | _=>{ kind:=.function,names:=[],isGenerator:=false,isCoroutine:=false }
abbrev CX0:CXT:=fun _ _ _ _ _ _=>False
abbrev E0:XK:=fun _ _ _=>False
structure Fun (K:PySem.W.Frag) (x qual:Str) (st:Stmt) (f:Addr) (fd:FuncData):Prop where
 ex:∃ (oc:Value) (od:Option Addr) (kV doc pm:Value) (an:Option Addr) (cdv ct:Value) (osl:Array (Option Value)),
  fd=PySem.W.fnOf x qual (defArgs st) (defBody st) (defScope st) .none kV doc pm an cdv ct∧K.lookup f=some ⟨oc,od,.func fd,osl⟩∧PySem.W.codeIn K cdv qual=true
 kp:PySem.W.keepIn K (.ref f)=true
section
variable {P:Program} {w:World} {K:PySem.W.Frag} {mg:Str→Option Value} {base:Heap}
theorem Fun.binds {x qual:Str} {st:Stmt} {f:Addr} {fd:FuncData} {ps:List Str} (F:Fun K x qual st f fd)
 (h:∀ (kV doc pm:Value) (an:Option Addr) (cdv ct:Value) (us:List Value),us.length=ps.length→bindArgs (PySem.W.fnOf x qual (defArgs st) (defBody st) (defScope st) .none kV doc pm an cdv ct) ⟨us,[]⟩=pure (ps.zip us)):Binds K fd ps []:=by
 obtain ⟨oc,od,kV,doc,pm,an,cdv,ct,osl,rfl,lk,hcd⟩:=F.ex
 exact .all (h kV doc pm an cdv ct)
theorem fun_mk {x qual:Str} {st:Stmt} {f:Addr} {oc:Value} {od an:Option Addr} {osl:Array (Option Value)} {kV doc pm cdv ct:Value} (l:K.lookup f=some ⟨oc,od,.func (PySem.W.fnOf x qual (defArgs st) (defBody st) (defScope st) .none kV doc pm an cdv ct),osl⟩)
 (c:PySem.W.codeIn K cdv qual=true) (k:PySem.W.keepIn K (.ref f)=true):Fun K x qual st f (PySem.W.fnOf x qual (defArgs st) (defBody st) (defScope st) .none kV doc pm an cdv ct):=⟨⟨oc,od,kV,doc,pm,an,cdv,ct,osl,rfl,l,c⟩,k⟩
end
theorem small1000 {n:Nat} (h:n≤1000):n < sizeLine:=Nat.lt_of_le_of_lt h (by decide)
section
variable {X:Cx}
theorem pv (i:Nat) {x:Str} {pos:Pos} (hN:X.N[i]?=some x:=by rfl) (hv:Vis X.env.scope x:=by first | exact Or.inl rfl | exact Or.inr (Or.inl rfl) | exact Or.inr (Or.inr rfl)) (hd:(x == ("__debug__":Str))=false:=by decide)
 (hcd:(x == ("__classdict__":Str))=false:=by decide):PE X (.Name x pos) (tVar i):=pe_var hN hv hd hcd
end
theorem iteF {A B:Prop} (h:B):if false=true then A else B:=by
 rw [if_neg Bool.false_ne_true]
 exact h
theorem iteT {A B:Prop} (h:A):if true=true then A else B:=by
 rw [if_pos rfl]
 exact h
def Same (H H':Hp):Prop:=∀ b o,H b=some o→H' b=some o
theorem Same.refl (H:Hp):Same H H:=fun _ _ h=>h
theorem Same.trans {H H1 H2:Hp} (a:Same H H1) (b:Same H1 H2):Same H H2:=fun c o h=>b c o (a c o h)
theorem Same.free {H H':Hp} (e:Same H H') {l:Addr} (h:H' l=Option.none):H l=Option.none:=by
 cases q:H l with
 | none=>rfl
 | some o =>
  rw [e l o q] at h
  cases h
theorem Same.seq {K:PySem.W.Frag} {H H':Hp} {a:Addr} {xs:List V} (e:Same H H') (h:SqL K H a xs):SqL K H' a xs:=by
 rcases h with (h | ⟨o,h⟩) | h
 · exact .inl (.inl (e _ _ h))
 · exact .inl (.inr ⟨o,e _ _ h⟩)
 · exact .inr h
end L2
set_option maxHeartbeats 4000000
namespace L2
open PySem PySem.Spec PyProof.Rows
theorem HOk.track {P:Program} {w:World} {H:Hp} {h:Heap} {a:Addr} {o:HO} (x:HOk P w H h) (hn:H a=none) (new:ObjOk P w (upd H a o) h a o):HOk P w (upd H a o) h:=fun b u e=>by
 by_cases hb:b=a
 · subst hb; rw [upd_same] at e; cases e; exact new
 · rw [upd_ne hb] at e
   exact (x b u e).stay (fun c v _ q=>q) (fun c q=>by rw [upd_ne (ne_of_none q hn)]; exact q) fun c xs q=>by rw [upd_ne (ne_of_none q hn)]; exact q
def closL (cs:List (Str × Addr)):List (Str × NameKind)→List (Str × Addr)→List (Str × Addr)
 | [],acc=>acc
 | (n,k) :: r,acc=>if k == .free then (match cs.lookup n with | some c=>closL cs r ((n,c) :: acc) | none=>closL cs r acc) else closL cs r acc
theorem closureFor_eq {env:Env}:∀ (names:List (Str × NameKind)) (acc:List (Str × Addr)),(∀ n,(n,NameKind.free)∈names→(env.cells.lookup n).isSome=true) →
 (forIn names acc fun (x:Str × NameKind) (r:List (Str × Addr))=>if x.2 == NameKind.free then (do let a ← cellOf env x.1; pure (ForInStep.yield ((x.1,a) :: r))) else pure (ForInStep.yield r):Sem (List (Str × Addr)))=pure (closL env.cells names acc)
 | [],acc,_=>by rw [List.forIn_nil]; rfl
 | (n,k) :: r,acc,h=>by
  rw [List.forIn_cons]
  unfold closL
  have hr:∀ m,(m,NameKind.free)∈r→(env.cells.lookup m).isSome=true:=fun m hm=>h m (List.mem_cons_of_mem _ hm)
  cases hk:k == NameKind.free with
  | false =>
   simp only [hk,Bool.false_eq_true,if_false,pure_bind]
   exact closureFor_eq r acc hr
  | true =>
   have ek:k=NameKind.free:=by simpa using hk
   subst ek
   have hc:=h n List.mem_cons_self
   cases q:env.cells.lookup n with
   | none=>rw [q] at hc; cases hc
   | some c =>
    simp only [beq_self_eq_true,if_true,cellOf,q,pure_bind]
    exact closureFor_eq r _ hr
theorem closureFor_closL {scope:Scope} {env:Env} (h:∀ n,(n,NameKind.free)∈scope.names→(env.cells.lookup n).isSome=true):closureFor scope env=pure (closL env.cells scope.names []):=by
 have e:=closureFor_eq (env:=env) scope.names [] h
 unfold closureFor
 simp only [bind_pure]
 exact e
theorem closL_mem {cs:List (Str × Addr)}:∀ (names:List (Str × NameKind)) (acc:List (Str × Addr)) {x:Str} {c:Addr},(x,c)∈closL cs names acc→(x,c)∈acc∨cs.lookup x=some c
 | [],acc,x,c,h=>.inl h
 | (n,k) :: r,acc,x,c,h=>by
  unfold closL at h
  split at h
  · split at h
    · rename_i c' q
      rcases closL_mem r _ h with h | h
      · rcases List.mem_cons.mp h with e | h
        · cases e; exact .inr q
        · exact .inl h
      · exact .inr h
    · exact closL_mem r _ h
  · exact closL_mem r _ h
theorem lookup_some_of_mem {α:Type}:∀ {l:List (Str × α)} {x:Str},(∃ c,(x,c)∈l)→∃ c,l.lookup x=some c
 | [],x,⟨c,h⟩=>by cases h
 | (n,v) :: r,x,⟨c,h⟩=>by
  rw [List.lookup_cons]
  cases hb:x == n with
  | true=>exact ⟨v,rfl⟩
  | false =>
   rcases List.mem_cons.mp h with e | h
   · cases e; simp at hb
   · exact lookup_some_of_mem ⟨c,h⟩
theorem closL_has {cs:List (Str × Addr)}:∀ (names:List (Str × NameKind)) (acc:List (Str × Addr)) {x:Str},((∃ c,(x,c)∈acc)∨((x,NameKind.free)∈names∧(cs.lookup x).isSome=true))→∃ c,(x,c)∈closL cs names acc
 | [],acc,x,h=>by
  rcases h with h | ⟨h,_⟩
  · exact h
  · cases h
 | (n,k) :: r,acc,x,h=>by
  unfold closL
  split
  · split
    · rename_i c' q
      refine closL_has r _ ?_
      rcases h with ⟨c,h⟩ | ⟨h,hs⟩
      · exact .inl ⟨c,List.mem_cons_of_mem _ h⟩
      · rcases List.mem_cons.mp h with e | h
        · cases e; exact .inl ⟨c',List.mem_cons_self⟩
        · exact .inr ⟨h,hs⟩
    · rename_i q
      refine closL_has r _ ?_
      rcases h with h | ⟨h,hs⟩
      · exact .inl h
      · rcases List.mem_cons.mp h with e | h
        · cases e; rw [q] at hs; cases hs
        · exact .inr ⟨h,hs⟩
  · rename_i hk
    refine closL_has r _ ?_
    rcases h with h | ⟨h,hs⟩
    · exact .inl h
    · rcases List.mem_cons.mp h with e | h
      · cases e; simp at hk
      · exact .inr ⟨h,hs⟩
theorem cellsFrom_mem:∀ (names:List (Str × NameKind)) (h:Heap) (acc:List (Str × Addr)) {x:Str} {c:Addr},(x,c)∈cellsFrom h.objs.size names acc→(x,c)∈acc∨(h.objs.size≤c∧(x,NameKind.cell)∈names∧(pushCells h names).IsCell c none)
 | [],h,acc,x,c,hm=>.inl hm
 | (n,k) :: r,h,acc,x,c,hm=>by
  unfold cellsFrom at hm
  unfold pushCells
  split at hm
  · rename_i hk
    have ek:k=NameKind.cell:=by simpa using hk
    subst ek
    rw [if_pos hk]
    have hz:(h.push { cls:=.type "cell",data:=.cell none }).objs.size=h.objs.size+1:=Heap.size_push ..
    rw [← hz] at hm
    rcases cellsFrom_mem r _ _ hm with hm | ⟨h1,h2,h3⟩
    · rcases List.mem_cons.mp hm with e | hm
      · cases e
        refine .inr ⟨Nat.le_refl _,List.mem_cons_self,?_⟩
        exact ⟨_,pushCells_keeps _ _ _ _ (Heap.get?_push_size _ rfl),rfl⟩
      · exact .inl hm
    · exact .inr ⟨by omega,List.mem_cons_of_mem _ h2,h3⟩
  · rename_i hk
    rw [if_neg hk]
    rcases cellsFrom_mem r h acc hm with hm | ⟨h1,h2,h3⟩
    · exact .inl hm
    · exact .inr ⟨h1,List.mem_cons_of_mem _ h2,h3⟩
theorem cellsFrom_sub:∀ (names:List (Str × NameKind)) (n:Nat) (acc:List (Str × Addr)) {p:Str × Addr},p∈acc→p∈cellsFrom n names acc
 | [],_,_,_,h=>h
 | (m,k) :: r,n,acc,p,h=>by
  unfold cellsFrom
  split
  · exact cellsFrom_sub r _ _ (List.mem_cons_of_mem _ h)
  · exact cellsFrom_sub r _ _ h
theorem cellsFrom_own:∀ (names:List (Str × NameKind)) (n:Nat) (acc:List (Str × Addr)) {x:Str},(x,NameKind.cell)∈names→∃ c,(x,c)∈cellsFrom n names acc
 | [],_,_,_,h=>by cases h
 | (m,k) :: r,n,acc,x,h=>by
  unfold cellsFrom
  split
  · rcases List.mem_cons.mp h with e | h
    · cases e; exact ⟨n,cellsFrom_sub r _ _ List.mem_cons_self⟩
    · exact cellsFrom_own r _ _ h
  · rename_i hk
    rcases List.mem_cons.mp h with e | h
    · cases e; simp at hk
    · exact cellsFrom_own r _ _ h
theorem cellsFrom_apart:∀ (names:List (Str × NameKind)) (n:Nat) (acc:List (Str × Addr)),(∀ p∈acc,p.2 < n)→(∀ x y c,(x,c)∈acc→(y,c)∈acc→x=y)→∀ x y c,(x,c)∈cellsFrom n names acc→(y,c)∈cellsFrom n names acc→x=y
 | [],_,_,_,h,x,y,c,a,b=>h x y c a b
 | (m,k) :: r,n,acc,hl,h,x,y,c,a,b=>by
  unfold cellsFrom at a b
  split at a
  · rename_i hk
    rw [if_pos hk] at b
    refine cellsFrom_apart r (n+1) ((m,n) :: acc) (fun p hp=>?_) (fun x y c a b=>?_) x y c a b
    · rcases List.mem_cons.mp hp with e | hp
      · subst e; exact Nat.lt_succ_self _
      · exact Nat.lt_succ_of_lt (hl p hp)
    · rcases List.mem_cons.mp a with e | a <;> rcases List.mem_cons.mp b with e' | b
      · cases e; cases e'; rfl
      · cases e; exact absurd (hl _ b) (Nat.lt_irrefl _)
      · cases e'; exact absurd (hl _ a) (Nat.lt_irrefl _)
      · exact h x y c a b
  · rename_i hk
    rw [if_neg hk] at b
    exact cellsFrom_apart r n acc hl h x y c a b
def blockEnv (scope:Scope) (cs:List (Str × Addr)) (C:Addr) (env:Env):Env :=
 { scope:=scope,locals:=C,globals:=env.globals,cells:=cs,qual:=env.qual,func:=none,code:=env.code,frame:=env.frame,builtins:=env.builtins }
theorem wpAny_blockEnv {M:Model} {A:Around} {E:Value→Shared→Prop} {s:Shared} {scope:Scope} {cl:List (Str × Addr)} {env:Env} {Q:Env→Shared→Prop}
 (h:Q (blockEnv scope (cellsFrom (s.heap.objs.size+1) scope.names cl) s.heap.objs.size env) { s with heap:=pushCells (s.heap.push { cls:=.type "dict",data:=.dict #[] }) scope.names }) :
 wpAny M A (newFunctionEnv scope env.globals cl [] env.qual none .none (some env)) Q E s:=by
 simp only [newFunctionEnv,Option.isSome_some,if_true]
 refine wpAny_bind (wpAny_alloc ?_)
 refine wpAny_bind (wpAny_layCells _ (fun name kind cells=>by cases hkc:kind == NameKind.cell <;> simp [hkc]) _ _ _ _ ?_)
 rw [show ({ s with heap:=s.heap.push { cls:=.type "dict",data:=.dict #[] } }:Shared).heap.objs.size=s.heap.objs.size+1 from Heap.size_push ..]
 exact wpAny_bind (wpAny_pure (wpAny_pure h))
section
variable {prog:Program} {w:World} {A:Around} {E:Value→Shared→Prop} {R:Result→Shared→Prop} {s:Shared}
theorem codeAny_compLoop_any {elt target iter:Expr} {ifs:List Expr} {scope:Scope} {pos:Pos} {it acc:Value} {env:Env} (I:Nat→Shared→Prop)
 (turn:∀ n s,I n s→wpAny (model prog w) A (pyNext it) (fun r s₁=>match r with
  | none=>R (.ok .next) s₁
  | some v=>wpAny (model prog w) A (letOwnedTupleGo target it v) (fun _ s₁'=>wpAny (model prog w) A (assign target env v) (fun _ s₂ =>
   wpAny (model prog w) A (forIn ifs true fun c r=>if r=true then do let ok ← isTrue c env (eval c env); pure (ForInStep.yield ok) else pure (ForInStep.yield r)) (fun ok s₃ =>
    if ok=true then wpAny (model prog w) A (eval elt env) (fun x s₄ =>
     wpAny (model prog w) A (call (.builtin "list.append") [acc,x]) (fun _ s₅=>∃ m,m < n∧I m s₅) (notedBy (model prog w) A env fun e s'=>R (.error e) s') s₄) (notedBy (model prog w) A env fun e s'=>R (.error e) s') s₃
    else ∃ m,m < n∧I m s₃) (notedBy (model prog w) A env fun e s'=>R (.error e) s') s₂) (notedBy (model prog w) A env fun e s'=>R (.error e) s') s₁') (notedBy (model prog w) A env fun e s'=>R (.error e) s') s₁) (notedBy (model prog w) A env fun e s'=>R (.error e) s') s)
 (n:Nat) (h:I n s) :
 codeAny (model prog w) A (.compLoop (.ListComp elt [⟨target,iter,ifs,0⟩] scope pos) 0 it acc env) R s:=by
 refine codeAny_loop rfl I (fun n s hI=>?_) n h
 show wpAny _ A ((compTurn (.ListComp elt [⟨target,iter,ifs,0⟩] scope pos) 0 it acc env).onRaise (fun x=>do noteFrame x env; theTreesLotGoes x)) _ _ s
 refine wpAny_noted ?_
 rw [compTurn_list]
 refine wpAny_bind (wpAny_standAt (wpAny_bind (wpAny_mono (turn n s hI) (fun r s₁ h₁=>?_) fun _ _ h'=>h')))
 cases r with
 | none=>exact wpAny_pure h₁
 | some v =>
  refine wpAny_bind (wpAny_mono h₁ (fun _ s₁' h₁'=>?_) fun _ _ h'=>h')
  refine wpAny_bind (wpAny_mono h₁' (fun _ s₂ h₂=>wpAny_bind (wpAny_mono h₂ (fun ok s₃ h₃=>?_) fun _ _ h'=>h')) fun _ _ h'=>h')
  cases ok with
  | false=>exact wpAny_pure ⟨rfl,h₃⟩
  | true =>
   exact wpAny_bind (wpAny_bind (wpAny_mono h₃ (fun x s₄ h₄=>wpAny_bind (wpAny_mono h₄ (fun _ s₅ h₅=>wpAny_pure (wpAny_pure ⟨rfl,h₅⟩)) fun _ _ h'=>h')) fun _ _ h'=>h'))
end
end L2
namespace L2
open PySem PySem.Spec PyProof.Rows
structure Blk where
 cs:List (Str × Addr)
 C:Addr
 s₃:Shared
 H₃:Hp
 fp:List Addr
 pins:List (Addr × Obj)
 σ:St
def blkXe (X:Cx) (C:Addr) (env:Env):Value→Shared→Prop :=
 notedBy (model X.prog X.w) X.A env fun x s'=>∃ m,s'.heap.Ns C m∧∀ h',Heap.SameBut C s'.heap h'→∀ cenv:Env,cenv.locals=C →
  wpAny (model X.prog X.w) X.A (passOn "comprehension.variables-let-go" x cenv:Sem Value) (fun _ _=>False) X.xe { s' with heap:=h' }
def Cx.block (X:Cx) (N:List Str) (scope:Scope) (b:Blk):Cx :=
 { X with N:=N,s₀:=b.s₃,H₀:=b.H₃,env:=blockEnv (relabel scope X.env) b.cs b.C X.env,outer:=X.stack,stack:=X.stack,ex:=b.fp,
          fn:=fun x=>scope.names.lookup x == some .cell,pn:=X.pn++b.pins,xe:=blkXe X b.C (blockEnv (relabel scope X.env) b.cs b.C X.env) }
theorem block_K {X:Cx} {N:List Str} {scope:Scope} {b:Blk}:(X.block N scope b).K=X.K:=rfl
theorem nox_K {X:Cx}:X.nox.K=X.K:=rfl
theorem wish_K {X:Cx} {E:Value→Shared→Prop}:(X.wish E).K=X.K:=rfl
theorem cxOf_K {CX:CXT} {P:Program} {w:World} {K:PySem.W.Frag} {mg:Str→Option Value} {base:Heap} {N:List Str} {qual:Str} {scope:Scope} {f:Addr} {cd:Value} {A:Around} {outer:List Env} {s:Shared} {H:Hp} {E:XK} :
 (cxOf CX P w K mg base N qual scope f cd A outer s H E).K=K:=rfl
def blkStart (own:Nat) (ix:List Nat) (σ:St):St:=List.replicate own none++ix.map fun i=>(σ[i]?).join
def BlkBody (own:Nat) (ix:List Nat) (g:Blk→TG) (tt:Blk→TT) (te:Blk→TE) (σ:St) (Q:VK) (J:It) (H1:Hp):Prop:=∀ bk:Blk,∃ W:Nat→Nat→List V→St→Hp→Prop,(∃ m,W 0 m [] (blkStart own ix σ) H1)∧∀ i m ys σc H,W i m ys σc H →
 (J.stop i H∧∀ D,H D=none→Q (.ref D) (upd H D (.lst ys)))∨(J.go i H∧ys.length < sizeLine∧∃ N:List V→St→Hp→Prop,(∀ ys' σ' H',N ys' σ' H'→∃ m',m' < m∧W (i+1) m' ys' σ' H') ∧
  ∀ x H',J.yld i H x H'→g bk x σc H' fun σ2 H2=>tt bk σ2 H2 fun c H3=>if c=true then te bk σ2 H3 fun y H4=>N (ys++[y]) σ2 H4 else N ys σ2 H3)
def tBlk (own:Nat) (ix:List Nat) (wi:TI) (g:Blk→TG) (tt:Blk→TT) (te:Blk→TE):TE:=fun σ H Q=>wi σ H (BlkBody own ix g tt te σ Q)
def PTs (X:Cx) (ifs:List Expr) (t:TT):Prop :=
 ∀ (pins:List (Addr × Obj)) (s:Shared) (σ:St) (H:Hp) (Q:Bool→Hp→Prop),Inv X pins σ H s→t σ H Q →
  wpAny (model X.prog X.w) X.A (forIn ifs true fun c r=>if r=true then do let ok ← isTrue c X.env (eval c X.env); pure (ForInStep.yield ok) else pure (ForInStep.yield r)) (TP X pins σ Q) X.xe s
def tYes:TT:=fun _ H Q=>Q true H
theorem pts_nil {X:Cx}:PTs X [] tYes:=fun pins s σ H Q I h=>wpAny_tests_nil ⟨H,I,h⟩
theorem pts_one {X:Cx} {c:Expr} {t:TT} (h:PT X c t):PTs X [c] t:=fun pins s σ H Q I hq=>wpAny_tests_one (h pins s σ H Q I hq)
theorem nodup_lookup {α:Type}:∀ {l:List (Str × α)} {x:Str} {k:α},(l.map (·.1)).Nodup→(x,k)∈l→l.lookup x=some k
 | (n,v) :: r,x,k,hn,h=>by
  rw [List.map_cons,List.nodup_cons] at hn
  rw [List.lookup_cons]
  rcases List.mem_cons.mp h with e | h
  · cases e; simp
  · have:x ≠ n:=fun e=>hn.1 (e ▸ List.mem_map.mpr ⟨(x,k),h,rfl⟩)
    have hb:(x == n)=false:=by simpa using this
    rw [hb]
    exact nodup_lookup hn.2 h
theorem relabel_kind {scope:Scope} {env:Env} {x:Str} {k:NameKind} (h:(relabel scope env).names.lookup x=some k) (hk:k=.cell∨k=.free):(x,NameKind.cell)∈scope.names∨(x,NameKind.free)∈scope.names:=by
 have hm:=mem_of_lookup h
 unfold relabel at hm
 obtain ⟨⟨n,k'⟩,hp,e⟩:=List.mem_map.mp hm
 dsimp only at e
 split at e
 · rename_i hc
   cases e
   have:k'=.free:=by
    cases k' <;> simp_all
   subst this
   exact .inr hp
 · cases e
   rcases hk with rfl | rfl
   · exact .inl hp
   · exact .inr hp
structure BOk (X:Cx) (b:Blk):Prop where
 inv:Inv X b.pins b.σ b.H₃ b.s₃
 fresh:b.s₃.heap.objs.size≤b.C
 fpo:∀ c∈b.fp,FpOk X b.pins b.H₃ c
structure BlkScope (X:Cx) (own fr:List Str) (ix:List Nat) (scope:Scope):Prop where
 kind:scope.kind=.function
 nd:(scope.names.map (·.1)).Nodup
 cap : (scope.names.all fun p => p.2 != .free || (X.env.kindOf p.1 == some .cell || X.env.kindOf p.1 == some .free)) = true
 fre:(fr.all fun x=>scope.names.lookup x == some .free)=true
 ixs:ix.map (fun i=>X.N[i]?)=fr.map some
section
variable {X:Cx} {pins:List (Addr × Obj)} {σ:St} {H:Hp} {s:Shared} {own fr:List Str} {ix:List Nat} {scope:Scope} {fp:List Addr}
theorem BlkScope.capOf (B:BlkScope X own fr ix scope) {n:Str} (h:(n,NameKind.free)∈scope.names):X.env.kindOf n=some .cell∨X.env.kindOf n=some .free:=by
 have:=List.all_eq_true.mp B.cap _ h
 simpa using this
theorem Inv.enter {s0:Shared} (I0:Inv X pins σ H s0) (I:Inv X pins σ H s) (k0:∀ b o,s0.heap.get? b=some o→s.heap.get? b=some o) (z0:s0.heap.objs.size≤s.heap.objs.size) (hos:s.os=s0.os) (B:BlkScope X own fr ix scope) (hf:∀ b∈fp,FpOk X pins H b) (ho:∀ b∈fp,∃ o,s.heap.get? b=some o) :
 Inv (X.block (own++fr) scope ⟨cellsFrom (s.heap.objs.size+1) scope.names (closL X.env.cells scope.names []),s.heap.objs.size,s0,H,fp,pins,σ⟩) [] (blkStart own.length ix σ) H
  { s with heap:=pushCells (s.heap.push { cls:=.type "dict",data:=.dict #[] }) scope.names }:=by
 have hz:(s.heap.push { cls:=.type "dict",data:=.dict #[] }).objs.size=s.heap.objs.size+1:=Heap.size_push ..
 have keep:∀ b o,s.heap.get? b=some o→(pushCells (s.heap.push { cls:=.type "dict",data:=.dict #[] }) scope.names).get? b=some o:=fun b o e=>pushCells_keeps _ _ _ _ (Heap.get?_push_of_some _ e)
 have cm:∀ x c,(x,c)∈cellsFrom (s.heap.objs.size+1) scope.names (closL X.env.cells scope.names [])→X.env.cells.lookup x=some c∨(s.heap.objs.size < c∧(x,NameKind.cell)∈scope.names∧(pushCells (s.heap.push { cls:=.type "dict",data:=.dict #[] }) scope.names).IsCell c none):=fun x c h=>by
  rw [← hz] at h
  rcases cellsFrom_mem _ _ _ h with h | ⟨h1,h2,h3⟩
  · rcases closL_mem _ _ h with h | h
    · cases h
    · exact .inl h
  · rw [hz] at h1; exact .inr ⟨h1,h2,h3⟩
 have cl:∀ x c,(cellsFrom (s.heap.objs.size+1) scope.names (closL X.env.cells scope.names [])).lookup x=some c→X.env.cells.lookup x=some c∨(s.heap.objs.size < c∧(x,NameKind.cell)∈scope.names∧(pushCells (s.heap.push { cls:=.type "dict",data:=.dict #[] }) scope.names).IsCell c none):=fun x c h=>cm x c (mem_of_lookup h)
 have oldlt:∀ x c,X.env.cells.lookup x=some c→c < s.heap.objs.size:=fun x c e=>(I.cell x c e).elim fun v q=>q.lt
 have hasOld:∀ n,(n,NameKind.free)∈scope.names→(X.env.cells.lookup n).isSome=true:=fun n h=>by
  obtain ⟨c,e⟩:=I.ok.has n (B.capOf h)
  rw [e]; rfl
 refine ⟨⟨I.ok.mod,B.kind,I.ok.glob,I.ok.blt,z0,?inj,?has,?cab,I.ok.hd,I.ok.frames,.inl rfl,?exf,I0.bs,Nat.le_trans I0.ok.bsz I0.sz,?noex,?exfs,I0.stack,I.stkFree⟩,hos,I.bare,Un.kept (fun b o e=>keep b o (k0 b o e)),?loc,?cell,I.hok.fresh (Nat.le_refl _),?freeC,?pin,I.hok.kept keep,?len⟩
 case inj =>
  intro x y c h1 h2
  refine cellsFrom_apart scope.names (s.heap.objs.size+1) (closL X.env.cells scope.names []) (fun p hp=>?_) (fun x y c a b=>?_) x y c (mem_of_lookup h1) (mem_of_lookup h2)
  · rcases closL_mem _ _ (x:=p.1) (c:=p.2) hp with h | h
    · cases h
    · exact Nat.lt_succ_of_lt (oldlt _ _ h)
  · rcases closL_mem _ _ a with a | a
    · cases a
    · rcases closL_mem _ _ b with b | b
      · cases b
      · exact I.ok.inj x y c a b
 case has =>
  intro x h
  have hm:(x,NameKind.cell)∈scope.names∨(x,NameKind.free)∈scope.names:=by
   rcases h with h | h
   · exact relabel_kind h (.inl rfl)
   · exact relabel_kind h (.inr rfl)
  refine lookup_some_of_mem ?_
  rcases hm with hm | hm
  · exact cellsFrom_own _ _ _ hm
  · obtain ⟨c,hc⟩:=closL_has (cs:=X.env.cells) scope.names [] (.inr ⟨hm,hasOld x hm⟩)
    exact ⟨c,cellsFrom_sub _ _ _ hc⟩
 case cab =>
  intro x c hx h
  rcases cl x c h with e | ⟨e,_,_⟩
  · have hx:scope.names.lookup x=some .cell:=by
     have hx:(scope.names.lookup x == some .cell)=true:=hx
     simpa using hx
    have hm:=mem_of_lookup h
    have h':(x,c)∈cellsFrom (s.heap.push { cls:=.type "dict",data:=.dict #[] }).objs.size scope.names (closL X.env.cells scope.names []):=by rw [hz]; exact hm
    rcases cellsFrom_mem _ _ _ h' with h' | ⟨h1,_,_⟩
    · exfalso
      have:∀ (names:List (Str × NameKind)) (acc:List (Str × Addr)),(x,c)∈closL X.env.cells names acc→(x,c)∈acc∨(x,NameKind.free)∈names:=by
       intro names
       induction names with
       | nil=>intro acc h; exact .inl h
       | cons p r ih =>
        obtain ⟨n,k⟩:=p
        intro acc h
        unfold closL at h
        split at h
        · rename_i hk
          have ek:k=NameKind.free:=by simpa using hk
          subst ek
          split at h
          · rcases ih _ h with h | h
            · rcases List.mem_cons.mp h with e | h
              · cases e; exact .inr List.mem_cons_self
              · exact .inl h
            · exact .inr (List.mem_cons_of_mem _ h)
          · rcases ih _ h with h | h
            · exact .inl h
            · exact .inr (List.mem_cons_of_mem _ h)
        · rcases ih _ h with h | h
          · exact .inl h
          · exact .inr (List.mem_cons_of_mem _ h)
      rcases this _ _ h' with h' | h'
      · cases h'
      · have:=nodup_lookup B.nd h'
        rw [hx] at this; cases this
    · rw [hz] at h1; exact Nat.le_trans z0 (Nat.le_of_lt h1)
  · exact Nat.le_trans z0 (Nat.le_of_lt e)
 case exf =>
  intro b hb
  obtain ⟨o,e⟩:=ho b hb
  have hlt:=Heap.lt_size e
  refine ⟨Nat.ne_of_lt hlt,fun x c h z=>?_⟩
  rcases cl x c h with q | ⟨q,_,_⟩
  · exact (hf b hb).2.2.2.2.1 x c q z
  · rw [z] at q; exact absurd (Nat.lt_trans hlt q) (Nat.lt_irrefl _)
 case noex =>
  intro b o e hb
  rcases (hf b hb).2.2.2.1 with h | h
  · exact I.ok.noex b o e h
  · exact absurd (Nat.lt_of_lt_of_le (Heap.lt_size e) (Nat.le_trans I.ok.bsz h)) (Nat.lt_irrefl _)
 case exfs =>
  intro b hb hm
  rcases List.mem_cons.mp (I.stkSub b hm) with e | e
  · exact (hf b hb).2.1 e
  · exact (hf b hb).2.2.1 e
 case loc =>
  refine ⟨_,(Heap.Ns.new s.heap (.type "dict")).keeps (pushCells_keeps _ _),fun i x v h1 h2 h3=>?_⟩
  have hi:own.length≤i:=by
   by_cases hi:i < own.length
   · unfold blkStart at h2
     rw [List.getElem?_append_left (by simpa using hi),List.getElem?_replicate] at h2
     split at h2 <;> cases h2
   · omega
  unfold blkStart at h2
  have h1':(own++fr)[i]?=some x:=h1
  rw [List.getElem?_append_right (by simpa using hi),List.length_replicate,List.getElem?_map] at h2
  rw [List.getElem?_append_right hi] at h1'
  cases ej:ix[i - own.length]? with
  | none=>rw [ej] at h2; cases h2
  | some j =>
   rw [ej] at h2
   have h2:(σ[j]?).join=some v:=Option.some.inj h2
   have hs:σ[j]?=some (some v):=by
    cases q:σ[j]? with
    | none=>rw [q] at h2; cases h2
    | some o=>rw [q] at h2; exact congrArg some h2
   have hN:X.N[j]?=some x:=by
    have:=congrArg (fun l=>l[i - own.length]?) B.ixs
    simp only [List.getElem?_map,ej,h1',Option.map_some] at this
    exact Option.some.inj this
   have hfree:scope.names.lookup x=some .free:=by
    have:=List.all_eq_true.mp B.fre x (List.mem_of_getElem? h1')
    simpa using this
   have hmf:=mem_of_lookup hfree
   have hk:=B.capOf hmf
   obtain ⟨m,_,hl⟩:=I.loc
   obtain ⟨u,ru,lk⟩:=hl j x v hN hs (by
    rcases hk with hk | hk
    · exact .inr (.inl hk)
    · exact .inr (.inr hk))
   refine ⟨u,ru,.inr ⟨?_,?_⟩⟩
   · rcases h3 with h3 | h3 | h3
     · exfalso
       have hm:=mem_of_lookup (show (relabel scope X.env).names.lookup x=some .local from h3)
       unfold relabel at hm
       obtain ⟨⟨n,k'⟩,hp,e⟩:=List.mem_map.mp hm
       dsimp only at e
       split at e
       · cases e
       · cases e
         have:=nodup_lookup B.nd hp
         rw [hfree] at this; cases this
     · exact .inl h3
     · exact .inr h3
   · rcases lk with ⟨k,_⟩ | ⟨_,c,ec,hc⟩
     · rcases hk with hk | hk <;> (rw [hk] at k; cases k)
     · obtain ⟨c',hc'⟩:=closL_has (cs:=X.env.cells) scope.names [] (.inr ⟨hmf,hasOld x hmf⟩)
       obtain ⟨c2,h2⟩:=lookup_some_of_mem ⟨c',cellsFrom_sub scope.names (s.heap.objs.size+1) _ hc'⟩
       refine ⟨c2,h2,?_⟩
       rcases cl x c2 h2 with q | ⟨_,q,_⟩
       · rw [ec] at q; cases q
         exact hc.keeps keep
       · have:=nodup_lookup B.nd q
         rw [hfree] at this; cases this
 case cell =>
  intro x c h
  rcases cl x c h with q | ⟨_,_,q⟩
  · obtain ⟨v,z⟩:=I.cell x c q
    exact ⟨v,z.keeps keep⟩
  · exact ⟨none,q⟩
 case freeC =>
  intro x c h
  rcases cl x c h with q | ⟨q,_,_⟩
  · exact I.freeC x c q
  · exact I.hok.fresh (Nat.le_of_lt q)
 case pin =>
  intro p hp
  have hp:p∈X.pn++pins:=by
   have:p∈(X.pn++pins)++[]:=hp
   simpa using this
  obtain ⟨e,n,ne,nf,d⟩:=I.pin p hp
  refine ⟨keep _ _ e,n,Nat.ne_of_lt (Heap.lt_size e),fun hb=>?_,d⟩
  rcases List.mem_cons.mp (I.stkSub _ hb) with z | z
  · exact ne z
  · exact nf z
 case len =>
  have:=congrArg List.length B.ixs
  simp only [List.length_map] at this
  show (blkStart own.length ix σ).length=(own++fr).length
  unfold blkStart
  simp [this]
end
end L2
namespace L2
open PySem PySem.Spec PyProof.Rows
theorem comp_run {X:Cx} {own fr:List Str} {ix:List Nat} {scope:Scope} {elt tg iter:Expr} {ifs:List Expr} {pos p:Pos} {wi:TI} {g:Blk→TG} {tt:Blk→TT} {te:Blk→TE} {use:Option (Value→Sem Unit)} {QV:Value→Shared→Prop}
 (hc:X.calm=true) (B:BlkScope X own fr ix scope) (hi:PI X tg iter wi) (hg:∀ b,PG (X.block (own++fr) scope b) tg (g b)) (ht:∀ b,BOk X b→PTs (X.block (own++fr) scope b) ifs (tt b)) (he:∀ b,BOk X b→PE (X.block (own++fr) scope b) elt (te b))
 (hs:∀ x,foldedSetIterable iter X.env x=pure x) {pins:List (Addr × Obj)} {s:Shared} {σ:St} {H:Hp} {Q:VK} (I:Inv X pins σ H s) (h:tBlk own.length ix wi g tt te σ H Q)
 (fin:∀ (D C:Addr) (H':Hp) (s':Shared) (m:Str→Option Value),Inv X pins σ H' s'→Q (.ref D) H'→s'.heap.Ns C m→H' C=none→C ≠ X.env.locals→(C∈X.ex∨X.s₀.heap.objs.size≤C)→(∀ x c,X.env.cells.lookup x=some c→c ≠ C)→(∀ p∈X.pn++pins,p.1 ≠ C) →
  compPost (model X.prog X.w) X.A X.xe use QV (.ref D) C (.ok .next) s') :
 wpAny (model X.prog X.w) X.A (comprehension (.ListComp elt [⟨tg,iter,ifs,0⟩] scope pos) scope X.env p (newList []) false (eval iter X.env) use) QV X.xe s:=by
 have hasOld:∀ n,(n,NameKind.free)∈scope.names→(X.env.cells.lookup n).isSome=true:=fun n h=>by
  obtain ⟨c,e⟩:=I.ok.has n (B.capOf h)
  rw [e]; rfl
 refine wpAny_comprehension_free rfl hs (closureFor_closL hasOld) B.kind (fun x hx hl=>by
  obtain ⟨n,k⟩:=x
  have hl:k=.local:=hl
  subst hl
  exact nodup_lookup B.nd hx) (thn (hi pins s σ H _ I h) fun v s1 h1=>thn h1 fun itv s2 h2=>?_)
 obtain ⟨it,fp,tn,J,H2,e,I2,T,st2,f2,hW⟩:=h2
 subst e
 refine wpAny_newObj_type ?_
 refine wpAny_blockEnv ?_
 let D:=s2.heap.objs.size
 let lo:Obj:={ cls:=.type "list",dict:=none,data:=.seq ([]:List Value).toArray }
 let s3:Shared:={ s2 with heap:=s2.heap.push lo }
 have hD3:s3.heap.get? D=some lo:=Heap.get?_push_size _ rfl
 have k3:∀ b o,s2.heap.get? b=some o→s3.heap.get? b=some o:=fun b o q=>Heap.get?_push_of_some _ q
 have I3:Inv X pins σ H2 s3:=I2.kept (t':=s2.toks) k3
 have st3:tn 0 s3.heap:=T.keep _ _ _ st2 fun b _ o q=>k3 b o q
 have z3:s3.heap.objs.size=s2.heap.objs.size+1:=Heap.size_push ..
 have o3:∀ b∈fp,∃ o,s3.heap.get? b=some o:=fun b hb=>by
  obtain ⟨o,q,_⟩:=T.obj _ _ st3 b hb
  exact ⟨o,q⟩
 have H2D:H2 D=none:=I2.hok.fresh (Nat.le_refl _)
 have nDfp:D ∉ fp:=fun hb=>by
  obtain ⟨o,q,_⟩:=T.obj _ _ st2 D hb
  exact absurd (Heap.lt_size q) (Nat.lt_irrefl _)
 let bk:Blk:=⟨cellsFrom (s3.heap.objs.size+1) scope.names (closL X.env.cells scope.names []),s3.heap.objs.size,s2,H2,fp,pins,σ⟩
 let Y:Cx:=X.block (own++fr) scope bk
 have hBk:BOk X bk:=⟨I2,by show s2.heap.objs.size≤s3.heap.objs.size; rw [z3]; omega,f2⟩
 obtain ⟨W,⟨m0,w0⟩,turn⟩:=hW bk
 have I4:Inv Y [] (blkStart own.length ix σ) H2 { s3 with heap:=pushCells (s3.heap.push { cls:=.type "dict",data:=.dict #[] }) scope.names }:=I2.enter (s0:=s2) I3 k3 (by rw [z3]; omega) rfl (fp:=fp) B f2 o3
 have k4:∀ b o,s3.heap.get? b=some o→(pushCells (s3.heap.push { cls:=.type "dict",data:=.dict #[] }) scope.names).get? b=some o:=fun b o e=>pushCells_keeps _ _ _ _ (Heap.get?_push_of_some _ e)
 have hDC:D ≠ bk.C:=Nat.ne_of_lt (Heap.lt_size hD3)
 have hDs:D ∉ Y.fs:=fun hb=>by
  rcases List.mem_cons.mp (I2.stkSub _ hb) with z | z
  · exact absurd (Eq.symm z) (Nat.ne_of_lt I2.lt)
  · exact I2.nofs (Nat.le_refl _) z
 have Yxe:Y.xe=blkXe X bk.C Y.env:=rfl
 have ypn:∀ {p:Addr × Obj} {l:List (Addr × Obj)},p∈Y.pn++l↔(p∈X.pn++pins∨p∈l):=fun {p l}=>by
  show p∈(X.pn++pins)++l↔_
  rw [List.mem_append]
 have loop:∀ s4:Shared,s4={ s3 with heap:=pushCells (s3.heap.push { cls:=.type "dict",data:=.dict #[] }) scope.names } →
  codeAny (model X.prog X.w) X.A (.compLoop (.ListComp elt [⟨tg,iter,ifs,0⟩] scope pos) 0 (.ref it) (.ref D) Y.env) (compPost (model X.prog X.w) X.A X.xe use QV (.ref D) bk.C) s4:=by
  rintro s4 rfl
  have err:∀ e s',Y.xe e s'→notedBy (model X.prog X.w) X.A Y.env (fun e s'=>compPost (model X.prog X.w) X.A X.xe use QV (.ref D) bk.C (.error e) s') e s':=fun e s' q=>by
   have q':notedBy (model X.prog X.w) X.A Y.env (fun x s'=>∃ m,s'.heap.Ns bk.C m∧∀ h',Heap.SameBut bk.C s'.heap h'→∀ cenv:Env,cenv.locals=bk.C →
    wpAny (model X.prog X.w) X.A (passOn "comprehension.variables-let-go" x cenv:Sem Value) (fun _ _=>False) X.xe { s' with heap:=h' }) e s':=q
   have conv:∀ (x:Value) (t:Shared),(∃ m,t.heap.Ns bk.C m∧∀ h',Heap.SameBut bk.C t.heap h'→∀ cenv:Env,cenv.locals=bk.C →
    wpAny (model X.prog X.w) X.A (passOn "comprehension.variables-let-go" x cenv:Sem Value) (fun _ _=>False) X.xe { t with heap:=h' })→compPost (model X.prog X.w) X.A X.xe use QV (.ref D) bk.C (.error x) t:=fun x t z=>by
    cases use <;> exact z
   exact wpAny_mono q' (fun _ t z=>conv _ t z) fun x t z=>conv x t z
  refine codeAny_compLoop_any (fun n s'=>∃ i ys its nn σ' H',Inv Y [] σ' H' s'∧tn i s'.heap∧(∀ b∈fp,H' b=none)∧H' D=none∧ys.length≤sizeLine∧Vals ys its∧s'.heap.get? D=some { cls:=.type "list",data:=.seq its.toArray nn }∧W i n ys σ' H') ?_ m0
   ⟨0,[],[],0,_,H2,I4,T.keep _ _ _ st3 fun b _ o q=>k4 b o q,fun b hb=>(f2 b hb).1,H2D,Nat.zero_le _,.nil,k4 _ _ hD3,w0⟩
  rintro n s5 ⟨i,ys,its,nn,σ5,H5,I5,st5,fr5,D5,hz5,v5,l5,w5⟩
  let pinD:List (Addr × Obj):=[(D,{ cls:=.type "list",data:=.seq its.toArray nn })]
  have I5p:Inv Y pinD σ5 H5 s5:=I5.pins_of fun p hp=>by
   have e:p=(D,{ cls:=.type "list",data:=.seq its.toArray nn }):=by simpa [pinD] using hp
   subst e
   exact ⟨l5,D5,hDC,hDs,fun v z=>by cases z⟩
  have stat:∀ {H':Hp},(∀ b∈fp,H' b=none)→∀ b∈fp,FpOk Y pinD H' b:=fun {H'} hn b hb=>by
   refine ⟨hn b hb,(I4.ok.exf b hb).1,I4.ok.exfs b hb,.inl hb,fun x c q z=>(I4.ok.exf b hb).2 x c q z,fun p hp z=>?_⟩
   rcases ypn.mp hp with hp | hp
   · exact (f2 b hb).2.2.2.2.2 p hp z
   · have e:p=(D,{ cls:=.type "list",data:=.seq its.toArray nn }):=by simpa [pinD] using hp
     subst e
     have z:D=b:=z
     exact nDfp (by rw [z]; exact hb)
  have pD:∀ {l:List (Addr × Obj)} {σ':St} {H':Hp} {s':Shared},Inv Y (pinD++l) σ' H' s'→s'.heap.get? D=some { cls:=.type "list",data:=.seq its.toArray nn }∧H' D=none:=fun {l σ' H' s'} J=>by
   have:=J.pin (D,{ cls:=.type "list",data:=.seq its.toArray nn }) (ypn.mpr (.inr (List.mem_append_left _ (by simp [pinD]))))
   exact ⟨this.1,this.2.1⟩
  rcases turn i n ys σ5 H5 w5 with ⟨stop,qn⟩ | ⟨go,hz,N,hN,step⟩
  · refine wpAny_mono (T.done Y rfl rfl rfl hc i pinD s5 σ5 H5 Y.xe I5p (stat fr5) st5 stop) (fun r s6 ⟨hr,I6⟩=>?_) err
    subst hr
    obtain ⟨l6,D6⟩:=pD (l:=[]) (by simpa using I6)
    obtain ⟨m6,n6,_⟩:=id I6.loc
    have C6:H5 bk.C=none:=I6.free
    have hk:HOk X.prog X.w (upd H5 D (.lst ys)) s6.heap:=I6.hok.track D6 ⟨hz5,its,nn,v5,l6⟩
    have u6:Un (frs X.stack) fp H2 (upd H5 D (.lst ys)) s2.heap s6.heap:=by
     have u:Un (frs X.stack) fp H2 H5 s2.heap s6.heap:=I6.base
     have nD:∀ b o,s2.heap.get? b=some o→b ≠ D:=fun b o q=>Nat.ne_of_lt (Heap.lt_size q)
     exact ⟨u.keep,u.slot,fun b o q n hx=>by rw [upd_ne (nD b o q)]; exact u.free b o q n hx,u.there,fun b xs q=>by rw [upd_ne (ne_of_none q H2D)]; exact u.tups b xs q,
      fun b o v q=>by rw [upd_ne (ne_of_none q H2D)]; exact u.frzs b o v q,fun b ps q=>by rw [upd_ne (ne_of_none q H2D)]; exact u.tbls b ps q⟩
    have I7:Inv X pins σ (upd H5 D (.lst ys)) s6:=I2.call' (ch:=fp) I6.os u6 hk I6.bare fun b hb=>⟨(f2 b hb).2.2.2.1,(f2 b hb).2.1,(f2 b hb).2.2.2.2.1,(f2 b hb).2.2.2.2.2⟩
    have hC2:s2.heap.objs.size≤bk.C:=by show s2.heap.objs.size≤s3.heap.objs.size; rw [z3]; omega
    refine fin D bk.C _ s6 m6 I7 (qn D D6) n6 (by rw [upd_ne hDC.symm]; exact C6) (Nat.ne_of_gt (Nat.lt_of_lt_of_le I2.lt hC2)) (.inr (Nat.le_trans I2.sz hC2)) (fun x c q z=>?_) fun p hp z=>?_
    · obtain ⟨v,q⟩:=I2.cell x c q
      have:=q.lt
      rw [z] at this
      exact absurd (Nat.lt_of_lt_of_le this hC2) (Nat.lt_irrefl _)
    · have:=Heap.lt_size (I2.pin p hp).1
      rw [z] at this
      exact absurd (Nat.lt_of_lt_of_le this hC2) (Nat.lt_irrefl _)
  · refine wpAny_mono (T.item Y rfl rfl rfl hc i pinD s5 σ5 H5 Y.xe I5p (stat fr5) st5 go) (fun r s6 ⟨u,hr,h6⟩=>?_) err
    subst hr
    refine wpAny_mono h6 (fun _ s7 ⟨x,H7,I7,r7,y7,st7,fr7⟩=>?_) err
    have I7':=I7.pinned (fp:=fp) (stat fr7) (T.obj _ _ st7)
    have again:∀ {σ8:St} {H8:Hp} {s8:Shared},Inv Y (pinD++pinsAt fp s7.heap) σ8 H8 s8→tn (i+1) s8.heap∧∀ b∈fp,H8 b=none:=fun {σ8 H8 s8} J=>by
     refine ⟨T.keep _ _ _ st7 fun b hb o e=>(J.pin (b,o) (ypn.mpr (.inr (List.mem_append_right _ (mem_pinsAt hb e))))).1,fun b hb=>?_⟩
     obtain ⟨o,e,d⟩:=T.obj _ _ st7 b hb
     exact (J.pin (b,o) (ypn.mpr (.inr (List.mem_append_right _ (mem_pinsAt hb e))))).2.1
    refine wpAny_mono (hg bk _ s7 σ5 H7 x u _ I7' r7 (step x H7 y7)) (fun _ s8 ⟨σ8,H8,I8,q8⟩=>?_) err
    refine wpAny_mono (ht bk hBk _ s8 σ8 H8 _ I8 q8) (fun c s9 ⟨H9,I9,q9⟩=>?_) err
    cases c with
    | false =>
     obtain ⟨m',hm,w'⟩:=hN ys σ8 H9 q9
     obtain ⟨a1,a2⟩:=again I9
     obtain ⟨b1,b2⟩:=pD I9
     exact ⟨m',hm,i+1,ys,its,nn,σ8,H9,I9.pins_of (fun p hp=>(nomatch hp)),a1,a2,b2,hz5,v5,b1,w'⟩
    | true =>
     refine wpAny_mono (he bk hBk _ s9 σ8 H9 _ I9 q9) (fun y s10 ⟨yv,H10,I10,r10,q10⟩=>?_) err
     obtain ⟨m',hm,w'⟩:=hN (ys++[yv]) σ8 H10 q10
     obtain ⟨a1,a2⟩:=again I10
     obtain ⟨b1,b2⟩:=pD I10
     have hl:=v5.length
     refine call_meets F.slot_list_append ⟨_,b1,rfl⟩ F.entry_list_append (F.args_list_append_2 _ _) (PySem.list_append D its.toArray nn y (by rw [List.size_toArray]; omega)) ⟨b1,?_⟩
     have q:=PySem.IsL.update b1 (fun z=>z.push y)
     have ko:∀ b o,b ≠ D→s10.heap.get? b=some o→(s10.heap.update D (Obj.mapSeq fun z=>z.push y)).get? b=some o:=fun b o hb hu=>(Heap.get?_update_other s10.heap _ (Ne.symm hb)).trans hu
     have I10':Inv Y [] σ8 H10 s10:=I10.pins_of (fun p hp=>(nomatch hp))
     have I11:Inv Y [] σ8 H10 { s10 with heap:=s10.heap.update D (Obj.mapSeq fun z=>z.push y),toks:=s10.toks }:=I10'.turned (it:=D) ko b2 hDC (.inr (Nat.le_refl _)) (fun x c e z=>by
      have h4:=I4.freeC x c e
      have h5:=I4.cell x c e
      obtain ⟨v,o,ho,hd⟩:=h5
      rw [z] at ho
      have:=k4 _ _ hD3
      have ho:(pushCells (s3.heap.push { cls:=.type "dict",data:=.dict #[] }) scope.names).get? D=some o:=ho
      rw [this] at ho
      cases ho
      cases hd) (fun p hp z=>by
      rcases ypn.mp hp with hp | hp
      · have:=Heap.lt_size (I2.pin p hp).1
        rw [z] at this
        exact Nat.lt_irrefl _ this
      · cases hp)
     refine ⟨m',hm,i+1,ys++[yv],its++[y],(if ((its.toArray.push y).size == its.toArray.size)=true then nn else nn+1),σ8,H10,I11,T.keep _ _ _ a1 fun b hb o e=>ko b o (fun z=>nDfp (z ▸ hb)) e,a2,b2,by simp; omega,v5.append (.cons r10 .nil),?_,w'⟩
     have e:its.toArray.push y=(its++[y]).toArray:=by simp
     rw [← e]
     exact q
 exact codeAny_compStart_list (loop _ rfl) (T.self X.A 0 _ _ _ (T.keep _ _ _ st3 fun b _ o q=>k4 b o q) (loop _ rfl))
section
variable {X:Cx} {own fr:List Str} {ix:List Nat} {scope:Scope} {elt tg iter:Expr} {ifs:List Expr} {pos:Pos} {wi:TI} {g:Blk→TG} {tt:Blk→TT} {te:Blk→TE}
theorem pe_comp (hc:X.calm=true) (B:BlkScope X own fr ix scope) (hi:PI X tg iter wi) (hg:∀ b,PG (X.block (own++fr) scope b) tg (g b)) (ht:∀ b,BOk X b→PTs (X.block (own++fr) scope b) ifs (tt b)) (he:∀ b,BOk X b→PE (X.block (own++fr) scope b) elt (te b))
 (hs:∀ x,foldedSetIterable iter X.env x=pure x:=by intro _; rfl):PE X (.ListComp elt [⟨tg,iter,ifs,0⟩] scope pos) (tBlk own.length ix wi g tt te):=by
 intro pins s σ H Q I h
 rw [eval_ListComp]
 refine comp_run (use:=none) hc B hi hg ht he hs I h fun D C H' s' m J q n c1 c2 c3 c4 c5=>?_
 refine ⟨m,n,fun h' sb=>⟨.ref D,H',?_,rfl,q⟩⟩
 exact J.turned (it:=C) (t':=s'.toks) (fun b o hb e=>(sb.2 b hb).trans e) c1 c2 c3 c4 c5
theorem ps_comp {i:Nat} {x:Str} {pos' spos:Pos} (hN:X.N.Nodup) (hx1:X.N[i]?=some x) (hx:Loc X.env.scope x) (hc:X.calm=true) (B:BlkScope X own fr ix scope) (hi:PI X tg iter wi) (hg:∀ b,PG (X.block (own++fr) scope b) tg (g b)) (ht:∀ b,BOk X b→PTs (X.block (own++fr) scope b) ifs (tt b))
 (he:∀ b,BOk X b→PE (X.block (own++fr) scope b) elt (te b)) (hsw:swapsWith (.ListComp elt [⟨tg,iter,ifs,0⟩] scope pos) (some (.Name x pos')) spos.line X.env=pure true:=by rfl) (hf:X.fn x=true∨X.env.scope.names.lookup x=some .local:=by first | exact .inl rfl | exact .inr rfl | assumption)
 (hs:∀ x,foldedSetIterable iter X.env x=pure x:=by intro _; rfl):PS X (.Assign [.Name x pos'] (.ListComp elt [⟨tg,iter,ifs,0⟩] scope pos) spos) (tAsg (tBlk own.length ix wi g tt te) (gName i)):=by
 intro pins s σ H D I h
 rw [exec_Assign_Name_used _ _ _ _ hsw]
 refine wpAny_bind (wpAny_standAt (wpAny_bind ?_))
 show wpAny _ X.A (do let _ ← comprehension (.ListComp elt [⟨tg,iter,ifs,0⟩] scope pos) scope X.env _ (newList []) false (eval iter X.env) (some (assign (.Name x pos') X.env))) _ _ s
 refine wpAny_bind (wpAny_mono (comp_run (use:=some (assign (.Name x pos') X.env)) (QV:=fun _ s'=>SP X pins D .next s') hc B hi hg ht he hs I h fun d C H' s' m J q n c1 c2 c3 c4 c5=>?_) (fun _ s' hq=>wpAny_pure (wpAny_pure hq)) fun _ _ e=>e)
 show wpAny _ X.A (assign (.Name x pos') X.env (.ref d)) _ _ _
 refine wpAny_assign_Name (store_ok2 (v:=.ref d) J hN hx1 hx rfl (fun s2 J2 ⟨a,sb,ha⟩=>?_) hf)
 have ne:C ≠ a:=by
  rcases ha with z | z
  · rw [z]; exact c2
  · exact fun e=>c4 x a z e.symm
 have n2:s2.heap.Ns C m:=by
  obtain ⟨o,es,ep,ho,r⟩:=n
  exact ⟨o,es,ep,(sb.2 C ne).trans ho,r⟩
 exact ⟨m,n2,fun h' sb'=>⟨_,H',J2.turned (it:=C) (t':=s2.toks) (fun b o hb e=>(sb'.2 b hb).trans e) c1 c2 c3 c4 c5,q⟩⟩
end
end L2
namespace L2
open PySem PySem.Spec PyProof.Rows
theorem Inv.turnedL {X:Cx} {pins:List (Addr × Obj)} {σ:St} {H:Hp} {s:Shared} {h':Heap} {t':Nat} {ch:List Addr} (I:Inv X pins σ H s) (hf:∀ b∈ch,FpOk X pins H b) (k:∀ b o,b ∉ ch→s.heap.get? b=some o→h'.get? b=some o) (th:∀ b∈ch,∃ o,h'.get? b=some o) :
 Inv X pins σ H { s with heap:=h',toks:=t' }:=by
 have nit:∀ b u,H b=some u→b ∉ ch:=fun b u e z=>by rw [(hf b z).1] at e; cases e
 refine I.step (g':=s.gens) (d':=s.drawn) (ch:=ch) (fun b hb=>⟨(hf b hb).2.2.2.1,(hf b hb).2.1,(hf b hb).2.2.2.2.1,(hf b hb).2.2.2.2.2⟩) (fun b o _ _ hc e _=>k b o hc e) (fun b o _ _ hc e _=>⟨o.slots,k b o hc e⟩) (fun _ _ _ _ n=>n)
  (fun b o hc e=>⟨o,k b o hc e⟩) (fun _ _ e=>e) (fun _ _ _ e=>e) (fun b ps e=>⟨#[],by rw [e]; simp⟩) (fun m hm=>?_) (fun b u e=>?_) I.bare
 · obtain ⟨o,es,ep,ho,r⟩:=hm
   exact ⟨o,es,ep,k _ o (fun z=>(hf _ z).2.1 rfl) ho,r⟩
 · refine (I.hok b u e).stay (fun c v hc q=>k c v ?_ q) (fun _ q=>q) fun _ _ q=>q
   rcases hc with z | z
   · rw [z]; exact nit b u e
   · exact nit c _ z
def Ite (K:PySem.W.Frag) (a:Addr):It :=
 ⟨fun i H=>∃ xs x,SqL K H a xs∧xs[i]?=some x,fun i H x H'=>∃ p v,H p=none∧x=.ref p∧H'=upd H p (.tup [.int i,v])∧∀ xs,SqL K H a xs→xs[i]?=some v,fun i H=>∃ xs,SqL K H a xs∧xs.length≤i⟩
theorem turn_enum {P:Program} {w:World} {K:PySem.W.Frag} {elts:List Expr} {x1} {tpos:Pos} (a e it:Addr) (hne:e ≠ it):Turn P w K (.Tuple elts x1 tpos) (Ite K a) [e,it] e (fun i h=>∃ old,IsEnum h e it ((i:Nat):Int) old∧h.IsListIter it a i) where
 mem:=by simp
 obj:=fun i h ⟨old,he,hi⟩ b hb=>by
  have eb:b=e∨b=it:=by simpa using hb
  rcases eb with rfl | rfl
  · exact ⟨_,he,fun v z=>by cases z⟩
  · obtain ⟨o,e,c,d⟩:=hi
    exact ⟨o,e,fun v z=>by rw [d] at z; cases z⟩
 keep:=fun i h h' ⟨old,he,hi⟩ k=>⟨old,k e (by simp) _ he,hi.at fun o q=>k it (by simp) o q⟩
 item:=by
  intro X hP hw hK hc i pins s σ H E I hf st hg
  subst hP hw hK
  obtain ⟨old,he,hit⟩:=st
  obtain ⟨xs,x,hq,hx⟩:=hg
  obtain ⟨its,rv,p,hz⟩:=I.list hq
  obtain ⟨u,hu,ru⟩:=rv.get hx
  refine wpAny_pyNext_enum_item he hit p.isList (x:=u) (by simpa using hu) hne fun h1 heo hit1 ht1 hz1 hk1=>?_
  have hsz:=Heap.lt_size he
  obtain ⟨oi,hoi,_⟩:=id hit
  have hszi:=Heap.lt_size hoi
  refine ⟨_,rfl,wpAny_letOwnedTupleGo_enum heo fun h2 he2 hs2=>?_⟩
  have hs2:Heap.SameBut e h1 h2:=hs2
  have k2:∀ b o,b ∉ [e,it]→s.heap.get? b=some o→h2.get? b=some o:=fun b o hb q=>by
   have hb:¬ (b=e∨b=it):=by simpa using hb
   exact (hs2.2 b (fun z=>hb (.inl z))).trans (hk1 b o (fun z=>hb (.inl z)) (fun z=>hb (.inr z)) q)
  have I2:Inv X pins σ H { s with heap:=h2,toks:=s.toks+1 }:=I.turnedL (ch:=[e,it]) hf k2 fun b hb=>by
   have eb:b=e∨b=it:=by simpa using hb
   rcases eb with rfl | rfl
   · exact ⟨_,he2⟩
   · obtain ⟨o,q,_⟩:=hit1
     exact ⟨o,(hs2.2 b (Ne.symm hne)).trans q⟩
  have hp:H s.heap.objs.size=none:=I.hok.fresh (Nat.le_refl _)
  have ht2:h2.get? s.heap.objs.size=some { cls:=.type "tuple",data:=.seq #[.int i s.toks,u] }:=(hs2.2 _ (Nat.ne_of_gt hsz)).trans ht1
  have I3:Inv X pins σ (upd H s.heap.objs.size (.tup [.int i,x])) { s with heap:=h2,toks:=s.toks+1 }:=by
   have ok3:HOk X.prog X.w (upd H s.heap.objs.size (.tup [.int i,x])) h2:=I2.hok.track hp ⟨by show 2≤sizeLine; decide,[.int i s.toks,u],.cons ⟨_,rfl⟩ (.cons ru .nil),⟨_,ht2,rfl,_,rfl⟩⟩
   refine I.step (g':=s.gens) (d':=s.drawn) (ch:=[e,it]) (fun b hb=>⟨(hf b hb).2.2.2.1,(hf b hb).2.1,(hf b hb).2.2.2.2.1,(hf b hb).2.2.2.2.2⟩) (fun b o _ _ hc q _=>k2 b o hc q) (fun b o _ _ hc q _=>⟨o.slots,k2 b o hc q⟩)
    (fun b o _ q n=>by rw [upd_ne (Nat.ne_of_lt (Heap.lt_size q))]; exact n) (fun b o hc q=>⟨o,k2 b o hc q⟩) (fun b ys q=>by rw [upd_ne (ne_of_none q hp)]; exact q) (fun b o v q=>by rw [upd_ne (ne_of_none q hp)]; exact q)
    (fun b ps q=>⟨#[],by rw [upd_ne (ne_of_none q hp),q]; simp⟩) (fun m hm=>?_) ok3 I.bare
   obtain ⟨o,es,ep,ho,r⟩:=hm
   exact ⟨o,es,ep,k2 _ o (fun z=>(hf _ z).2.1 rfl) ho,r⟩
  have ei:((i:Nat):Int)+1=((i+1:Nat):Int):=by push_cast; rfl
  rw [ei] at he2
  refine ⟨.ref s.heap.objs.size,_,I3,rfl,⟨_,x,hp,rfl,rfl,fun ys hy=>by rw [I.list_inj hy hq]; exact hx⟩,⟨u,he2,hit1.at fun o q=>(hs2.2 it (Ne.symm hne)).trans q⟩,fun b hb=>?_⟩
  have eb:b=e∨b=it:=by simpa using hb
  have hb2:b < s.heap.objs.size:=by
   rcases eb with rfl | rfl
   · exact hsz
   · exact hszi
  rw [upd_ne (Nat.ne_of_lt hb2)]
  exact (hf b hb).1
 done:=by
  intro X hP hw hK hc i pins s σ H E I hf st hg
  subst hP hw hK
  obtain ⟨old,he,hit⟩:=st
  obtain ⟨xs,hq,hx⟩:=hg
  obtain ⟨its,rv,p,hz⟩:=I.list hq
  have hl:=rv.length
  obtain ⟨f0,f1,f2,f3,f4,f5⟩:=hf it (by simp)
  exact wpAny_pyNext_enum_end (I.ok.hd hc) he hit p.isList (by simp; omega) fun h' eb=>⟨rfl,I.turned (t':=s.toks) (fun b o hb q=>eb b o hb q) f0 f1 f3 f4 f5⟩
 self:=fun _ _ _ _ _ ⟨_,he,_⟩ h=>wpAny_pyIter_enum he h
def iEnum (K:PySem.W.Frag) (ta:TA):TI:=fun σ H R=>ta σ H fun vs H1=>∃ a,vs=[.ref a]∧(∃ xs,SqL K H1 a xs)∧R (Ite K a) H1
section
variable {X:Cx}
theorem pi_enum {a:Expr} {ta:TA} {p pos:Pos} {elts:List Expr} {x1} {tpos:Pos} (hg:Gl X "enumerate") (hm:X.mg "enumerate"=none) (ha:PA X [a] ta) (hs:starEach [a] X.env=[(false,eval a X.env)]:=by rfl) :
 PI X (.Tuple elts x1 tpos) (.Call (.Name "enumerate" p) [a] [] pos) (iEnum X.K ta):=by
 intro pins s σ H R I h
 refine Call_ (ld_blt I hg hm boot_enumerate (PyProof.Rows.callWith_type1 (thn (ha pos pins s σ H _ I h) fun us s1 ⟨vs,H1,I1,r1,q1⟩=>?_) hs rfl))
 obtain ⟨b,e,⟨xs,hq⟩,q⟩:=q1
 subst e
 cases r1 with
 | cons r rr =>
  cases rr
  cases r
  obtain ⟨its,rv,pl,hz⟩:=I1.list hq
  refine call_enumerate_list pl.isList fun h' he hit hsz hk=>?_
  have I2:Inv X pins σ H1 { s1 with heap:=h' }:=I1.kept (t':=s1.toks) hk
  refine wpAny_pyIter_enum he ⟨s1.heap.objs.size+1,[s1.heap.objs.size+1,s1.heap.objs.size],_,_,H1,rfl,I2,turn_enum b _ _ (Nat.succ_ne_self _),⟨_,he,hit⟩,fun c hc=>?_,q⟩
  have ec:c=s1.heap.objs.size+1∨c=s1.heap.objs.size:=by simpa using hc
  rcases ec with rfl | rfl
  · exact I1.fpOk (Nat.le_succ _) (I1.hok.fresh (Nat.le_succ _))
  · exact I1.fpOk (Nat.le_refl _) (I1.hok.fresh (Nat.le_refl _))
theorem Vals.bls:∀ {bs:List Bool} {us:List Value},Vals (bs.map V.bl) us→us=bs.map Value.bool
 | [],_,.nil=>rfl
 | _ :: _,_,.cons r t=>by
  cases r
  rw [List.map_cons,Vals.bls t]
theorem all_range {bs:List Bool}:((List.range bs.length).all fun i=>bs.getD i false)=bs.all id:=by
 induction bs with
 | nil=>rfl
 | cons b r ih =>
  rw [List.length_cons,List.range_succ_eq_map,List.all_cons,List.all_map,List.all_cons]
  rw [← ih]
  rfl
theorem call_all (hc:X.calm=true):CallR X (.builtin "all") (fun xs H Q=>∃ (p:Addr) (bs:List Bool),xs=[.ref p]∧SqL X.K H p (bs.map V.bl)∧Q (.bl (bs.all id)) H):=by
 intro pins s σ H xs us Q I r h
 obtain ⟨p,bs,rfl,hq,q⟩:=h
 obtain ⟨u,rfl,ru⟩:=vals1 r
 cases ru
 obtain ⟨its,rv,pl,hz⟩:=I.list hq
 have eb:=rv.bls
 subst eb
 refine call_all_walk ?_
 refine wpAny_pyIter_list pl.isList ?_
 have pm:p ≠ s.heap.objs.size:=by
  obtain ⟨o,n,ho,_⟩:=pl
  exact Nat.ne_of_lt (Heap.lt_size ho)
 have I1:Inv X pins σ H { s with heap:=s.heap.push { cls:=.type "list_iterator",data:=.fields #[.ref p,.int 0 0] } }:=I.kept (t':=s.toks) fun b o e=>Heap.get?_push_of_some _ e
 refine ⟨s.heap.objs.size,[s.heap.objs.size,p],[s.heap.objs.size],_,_,_,fun i=>bs.getD i false,rfl,Walks.list (A:=X.A.in1) (by show X.A.handled=none; exact I.ok.hd hc) s.heap.objs.size p pm (bs.map Value.bool).toArray,⟨⟨_,Heap.get?_push_size _ rfl,rfl,rfl⟩,pl.isList.at fun o e=>Heap.get?_push_of_some _ e⟩,fun i v s' Q' E' hv hq'=>?_,fun h' tk hk=>?_⟩
 · have hv:(bs.map Value.bool)[i]?=some v:=by simpa using hv
   rw [List.getElem?_map] at hv
   cases e:bs[i]? with
   | none=>rw [e] at hv; cases hv
   | some b =>
    rw [e] at hv
    cases hv
    have:bs.getD i false=b:=by rw [List.getD_eq_getElem?_getD,e]; rfl
    have hq':Q' (bs.getD i false) s':=hq'
    rw [this] at hq'
    exact wpAny_truthy_bool hq'
 · have e:(bs.map Value.bool).toArray.size=bs.length:=by simp
   rw [e,all_range]
   obtain ⟨f0,f1,f2,f3,f4,f5⟩:=I.fpOk (Nat.le_refl s.heap.objs.size) (I.hok.fresh (Nat.le_refl _))
   exact ⟨.bl (bs.all id),H,I1.turned (it:=s.heap.objs.size) (fun b o hb q=>hk b o (by simpa using hb) q) f0 f1 f3 f4 f5,rfl,q⟩
def isiOk (K:PySem.W.Frag) (t:Value) (c:V) (b:Bool):Prop:=match c with
 | .ty n=>PySem.W.kitOne K t (.type n)=some b
 | .ref a=>PySem.W.kitOne K t (.ref a)=some b
 | _=>False
theorem call_isi:CallR X (.builtin "isinstance") (fun xs H Q=>∃ x c t b,xs=[x,c]∧TyOf X.K H x t∧isiOk X.K t c b∧Q (.bl b) H):=by
 intro pins s σ H xs us Q I r h
 obtain ⟨x,c,t,b,rfl,ty,ok,q⟩:=h
 obtain ⟨u,v,rfl,ru,rv⟩:=vals2 r
 cases c with
 | ty n =>
  obtain rfl:v=Value.type n:=rv
  exact isinst_ok I ru ty ok fun tk=>⟨.bl b,H,I.tok tk,rfl,q⟩
 | ref a =>
  obtain rfl:v=Value.ref a:=rv
  exact isinst_ok I ru ty ok fun tk=>⟨.bl b,H,I.tok tk,rfl,q⟩
 | _=>exact False.elim ok
def eqVs:List V→List V→Bool
 | [],[]=>true
 | x :: xs,y :: ys=>eqV x y && eqVs xs ys
 | _,_=>false
theorem eqVs_len:∀ {xs ys:List V},xs.length ≠ ys.length→eqVs xs ys=false
 | [],[],h=>absurd rfl h
 | [],_ :: _,_=>rfl
 | _ :: _,[],_=>rfl
 | x :: xs,y :: ys,h=>by
  unfold eqVs
  rw [eqVs_len (xs:=xs) (ys:=ys) (fun e=>h (by simp [e]))]
  simp
theorem eqVs_range:∀ (xs ys:List V),xs.length=ys.length→((List.range xs.length).all fun j=>eqV (xs.getD j .non) (ys.getD j .non))=eqVs xs ys
 | [],[],_=>rfl
 | x :: xs,y :: ys,h=>by
  unfold eqVs
  rw [List.length_cons,List.range_succ_eq_map,List.all_cons,List.all_map,← eqVs_range xs ys (by simpa using h)]
  rfl
theorem eqVs_min:∀ (xs ys:List V),((List.range (min xs.length ys.length)).all (fun j=>eqV (xs.getD j .non) (ys.getD j .non)) && xs.length == ys.length)=eqVs xs ys:=fun xs ys=>by
 by_cases h:xs.length=ys.length
 · rw [← eqVs_range xs ys h,← h,Nat.min_self]; simp
 · rw [eqVs_len h]
   have:(xs.length == ys.length)=false:=by simpa using h
   rw [this,Bool.and_false]
theorem eqAt_items {A:Around} {s:Shared} {xs ys:List V} {us ws:List Value} (r:Vals xs us) (q:Vals ys ws) (fx:xs.all flatV=true) (fy:ys.all flatV=true) :
 ∀ j (h1:j < us.toArray.size) (h2:j < ws.toArray.size),SeqAt.EqAt A s us.toArray[j] ws.toArray[j] (eqV (xs.getD j .non) (ys.getD j .non)):=fun j h1 h2=>by
 have l1:=r.length
 have l2:=q.length
 have h1':j < xs.length:=by simpa [l1] using h1
 have h2':j < ys.length:=by simpa [l2] using h2
 obtain ⟨u,e1,ru⟩:=r.get (i:=j) (x:=xs[j]) (by simp [h1'])
 obtain ⟨w,e2,rw'⟩:=q.get (i:=j) (x:=ys[j]) (by simp [h2'])
 have g1:us.toArray[j]=u:=by
  have:=List.getElem?_eq_some_iff.mp e1
  obtain ⟨_,e⟩:=this
  simpa using e
 have g2:ws.toArray[j]=w:=by
  have:=List.getElem?_eq_some_iff.mp e2
  obtain ⟨_,e⟩:=this
  simpa using e
 rw [g1,g2]
 have d1:xs.getD j .non=xs[j]:=by rw [List.getD_eq_getElem?_getD]; simp [h1']
 have d2:ys.getD j .non=ys[j]:=by rw [List.getD_eq_getElem?_getD]; simp [h2']
 rw [d1,d2]
 exact eqAt_V ru rw' (List.all_eq_true.mp fx _ (List.getElem_mem h1')) (List.all_eq_true.mp fy _ (List.getElem_mem h2'))
def rEqS (K : PySem.W.Frag) (neg : Bool) : R2 := fun x y H Q => ∃ a b xs ys, x = .ref a ∧ y = .ref b ∧ ((SqL K H a xs ∧ SqL K H b ys) ∨ (SqT K H a xs ∧ SqT K H b ys)) ∧ xs.all flatV = true ∧ ys.all flatV = true ∧ Q (.bl (if neg then !eqVs xs ys else eqVs xs ys)) H
theorem op_eqS (hu:X.A.units < cLine):OpR X (compareOp .Eq) (rEqS X.K false):=by
 intro pins s σ H x y v u Q I rx ry h
 obtain ⟨a,b,xs,ys,rfl,rfl,hh,fx,fy,q⟩:=h
 cases rx
 cases ry
 rcases hh with ⟨h1,h2⟩ | ⟨h1,h2⟩
 · obtain ⟨us,rv,p1,z1⟩:=I.list h1
   obtain ⟨ws,rw',p2,z2⟩:=I.list h2
   have l1:=rv.length
   have l2:=rw'.length
   by_cases hl:xs.length=ys.length
   · refine SeqAt.eq_listAt p1.isList p2.isList (by simp; omega) hu (eqAt_items rv rw' fx fy) ?_
     have e:(us.toArray.size)=xs.length:=by simp [l1]
     rw [e,eqVs_range xs ys hl]
     exact ⟨.bl _,H,I,rfl,q⟩
   · refine SeqAt.eq_list_lengthsAt p1.isList p2.isList (by simp; omega) hu ?_
     rw [← eqVs_len hl]
     exact ⟨.bl _,H,I,rfl,q⟩
 · obtain ⟨us,rv,p1,z1⟩:=I.tuple h1
   obtain ⟨ws,rw',p2,z2⟩:=I.tuple h2
   have l1:=rv.length
   have l2:=rw'.length
   refine SeqAt.eq_tupleAt (show s.heap.IsTuple a us.toArray from p1) (show s.heap.IsTuple b ws.toArray from p2) hu (eqAt_items rv rw' fx fy) ?_
   have e:(us.toArray.size)=xs.length:=by simp [l1]
   have e':(ws.toArray.size)=ys.length:=by simp [l2]
   rw [e,e',eqVs_min xs ys]
   exact ⟨.bl _,H,I,rfl,q⟩
theorem op_neS (hu:X.A.units < cLine):OpR X (compareOp .NotEq) (rEqS X.K true):=by
 intro pins s σ H x y v u Q I rx ry h
 obtain ⟨a,b,xs,ys,rfl,rfl,hh,fx,fy,q⟩:=h
 cases rx
 cases ry
 rcases hh with ⟨h1,h2⟩ | ⟨h1,h2⟩
 · obtain ⟨us,rv,p1,z1⟩:=I.list h1
   obtain ⟨ws,rw',p2,z2⟩:=I.list h2
   have l1:=rv.length
   have l2:=rw'.length
   by_cases hl:xs.length=ys.length
   · refine SeqAt.RcNeAt.lists p1.isList p2.isList (by simp; omega) hu (eqAt_items rv rw' fx fy) _ _ _ _ ?_
     have e:(us.toArray.size)=xs.length:=by simp [l1]
     rw [e,eqVs_range xs ys hl]
     exact ⟨.bl _,H,I,rfl,q⟩
   · refine SeqAt.RcNeAt.lists_lengths p1.isList p2.isList (by simp; omega) hu _ _ _ _ ?_
     have q' : Q (.bl (!eqVs xs ys)) H := q
     rw [eqVs_len hl] at q'
     exact ⟨.bl _,H,I,rfl,q'⟩
 · obtain ⟨us,rv,p1,z1⟩:=I.tuple h1
   obtain ⟨ws,rw',p2,z2⟩:=I.tuple h2
   have l1:=rv.length
   have l2:=rw'.length
   refine SeqAt.RcNeAt.tuples (show s.heap.IsTuple a us.toArray from p1) (show s.heap.IsTuple b ws.toArray from p2) hu (eqAt_items rv rw' fx fy) _ _ _ _ ?_
   have e:(us.toArray.size)=xs.length:=by simp [l1]
   have e':(ws.toArray.size)=ys.length:=by simp [l2]
   rw [e,e',eqVs_min xs ys]
   exact ⟨.bl _,H,I,rfl,q⟩
end
end L2
namespace L2
open PySem PySem.Spec PyProof.Rows
def NoX (CX:CXT):Prop:=∀ o H s e s',CX o H s E0 e s'→False
theorem nox0:NoX CX0:=fun _ _ _ _ _ h=>h
theorem pass1 {CX:CXT} {X:Cx} (c0:NoX CX):Passes CX X E0:=fun _ _ _ _ _ _ _ h=>(c0 _ _ _ _ _ h).elim
theorem hu0 {A:Around} {k:Nat} (hr:Room k A):A.units < cLine:=hr.units0
section
variable {P:Program} {w:World} {K:PySem.W.Frag} {mg:Str→Option Value} {base:Heap}
theorem Fun.okX {CX:CXT} {x qual:Str} {st:Stmt} {f:Addr} {fd:FuncData} {N ps:List Str} {k:Nat} {sp:Sp} (F:Fun K x qual st f fd) (S:FnScope N ps (defScope st)) (len:∀ vs H Q E,sp vs H Q E→vs.length=ps.length)
 (hbody:∀ (cdv:Value) (A:Around) (outer:List Env) (s:Shared) (H:Hp) (vs:List V) (Q:VK) (E:XK),Room k (A.deeper (envOfC qual (defScope st) s.heap.objs.size f cdv))→sp vs H Q E →
  ∃ t,PSs (cxOf CX P w K mg base N qual (defScope st) f cdv A outer s H E).nox (defBody st) t∧t { nx:=fun _ H'=>Q .non H',rt:=Q } (start N vs) H):FnOk P w K mg base CX (k+1) f fd ps sp:=by
 obtain ⟨oc,od,kV,doc,pm,an,cdv,ct,osl,rfl,lk,hcd⟩:=F.ex
 refine fn_of lk hcd S len fun A outer s H vs Q E hr hsp=>?_
 obtain ⟨t,h,q⟩:=hbody cdv A outer s H vs Q E hr hsp
 exact ⟨t,h.nox,q⟩
end
theorem blk_list {K:PySem.W.Frag} {a:Addr} {xs:List V} {own:Nat} {ix:List Nat} {g:Blk→TG} {tt:Blk→TT} {te:Blk→TE} {σ0:St} {H0:Hp} {Q:VK} (Pv:Nat→List V→St→Hp→Prop) (hz:xs.length≤sizeLine) (h0:Pv 0 [] (blkStart own ix σ0) H0) (hl:∀ i ys σ H,i≤xs.length→Pv i ys σ H→SqL K H a xs∧ys.length≤i)
 (hs:∀ bk i x ys σ H,xs[i]?=some x→Pv i ys σ H→g bk x σ H fun σ2 H2=>tt bk σ2 H2 fun c H3=>if c=true then te bk σ2 H3 fun y H4=>Pv (i+1) (ys++[y]) σ2 H4 else Pv (i+1) ys σ2 H3)
 (hd:∀ ys σ H D,Pv xs.length ys σ H→H D=none→Q (.ref D) (upd H D (.lst ys))) :
 BlkBody own ix g tt te σ0 Q (Itl K a) H0:=by
 intro bk
 refine ⟨fun i m ys σ H=>m=xs.length - i∧i≤xs.length∧Pv i ys σ H,⟨xs.length,by simp,Nat.zero_le _,h0⟩,?_⟩
 rintro i m ys σ H ⟨rfl,hi,p⟩
 obtain ⟨q,hy⟩:=hl i ys σ H hi p
 by_cases hlt:i < xs.length
 · refine .inr ⟨⟨xs,xs[i],q,by simp [hlt]⟩,by omega,Pv (i+1),fun ys' σ' H' p'=>⟨xs.length - (i+1),by omega,rfl,hlt,p'⟩,fun x H' y=>?_⟩
   obtain ⟨e,y⟩:=y
   subst e
   exact hs bk i x ys σ _ (y xs q) p
 · have e:i=xs.length:=by omega
   subst e
   exact .inl ⟨⟨xs,q,Nat.le_refl _⟩,fun D hD=>hd ys σ H D p hD⟩
theorem blk_range {lo:Int} {n:Nat} {own:Nat} {ix:List Nat} {g:Blk→TG} {tt:Blk→TT} {te:Blk→TE} {σ0:St} {H0:Hp} {Q:VK} (Pv:Nat→List V→St→Hp→Prop) (hz:n≤sizeLine) (h0:Pv 0 [] (blkStart own ix σ0) H0) (hl:∀ i ys σ H,i≤n→Pv i ys σ H→ys.length≤i)
 (hs:∀ bk i ys σ H,i < n→Pv i ys σ H→g bk (.int (lo+i)) σ H fun σ2 H2=>tt bk σ2 H2 fun c H3=>if c=true then te bk σ2 H3 fun y H4=>Pv (i+1) (ys++[y]) σ2 H4 else Pv (i+1) ys σ2 H3)
 (hd:∀ ys σ H D,Pv n ys σ H→H D=none→Q (.ref D) (upd H D (.lst ys))) :
 BlkBody own ix g tt te σ0 Q (Itr lo n) H0:=by
 intro bk
 refine ⟨fun i m ys σ H=>m=n - i∧i≤n∧Pv i ys σ H,⟨n,by simp,Nat.zero_le _,h0⟩,?_⟩
 rintro i m ys σ H ⟨rfl,hi,p⟩
 have hy:=hl i ys σ H hi p
 by_cases hlt:i < n
 · refine .inr ⟨hlt,by omega,Pv (i+1),fun ys' σ' H' p'=>⟨n - (i+1),by omega,rfl,hlt,p'⟩,fun x H' y=>?_⟩
   obtain ⟨e,y⟩:=y
   subst e y
   exact hs bk i ys σ _ hlt p
 · have e:i=n:=by omega
   subst e
   exact .inl ⟨Nat.le_refl _,fun D hD=>hd ys σ H D p hD⟩
theorem blk_enum {K:PySem.W.Frag} {a:Addr} {xs:List V} {own:Nat} {ix:List Nat} {g:Blk→TG} {tt:Blk→TT} {te:Blk→TE} {σ0:St} {H0:Hp} {Q:VK} (Pv:Nat→List V→St→Hp→Prop) (hz:xs.length≤sizeLine) (h0:Pv 0 [] (blkStart own ix σ0) H0) (hl:∀ i ys σ H,i≤xs.length→Pv i ys σ H→SqL K H a xs∧ys.length≤i)
 (hs:∀ bk i x ys σ H p,xs[i]?=some x→Pv i ys σ H→H p=none→g bk (.ref p) σ (upd H p (.tup [.int i,x])) fun σ2 H2=>tt bk σ2 H2 fun c H3=>if c=true then te bk σ2 H3 fun y H4=>Pv (i+1) (ys++[y]) σ2 H4 else Pv (i+1) ys σ2 H3)
 (hd:∀ ys σ H D,Pv xs.length ys σ H→H D=none→Q (.ref D) (upd H D (.lst ys))) :
 BlkBody own ix g tt te σ0 Q (Ite K a) H0:=by
 intro bk
 refine ⟨fun i m ys σ H=>m=xs.length - i∧i≤xs.length∧Pv i ys σ H,⟨xs.length,by simp,Nat.zero_le _,h0⟩,?_⟩
 rintro i m ys σ H ⟨rfl,hi,p⟩
 obtain ⟨q,hy⟩:=hl i ys σ H hi p
 by_cases hlt:i < xs.length
 · refine .inr ⟨⟨xs,xs[i],q,by simp [hlt]⟩,by omega,Pv (i+1),fun ys' σ' H' p'=>⟨xs.length - (i+1),by omega,rfl,hlt,p'⟩,fun x H' y=>?_⟩
   obtain ⟨b,v,hb,e1,e2,y⟩:=y
   subst e1 e2
   exact hs bk i v ys σ H b (y xs q) p hb
 · have e:i=xs.length:=by omega
   subst e
   exact .inl ⟨⟨xs,q,Nat.le_refl _⟩,fun D hD=>hd ys σ H D p hD⟩
def ForBody (g:TG) (tb:TS) (D:Ends) (σ:St) (J:It) (H1:Hp):Prop:=∃ W:Nat→Nat→St→Hp→Prop,(∃ m,W 0 m σ H1)∧∀ i m σ H,W i m σ H →
 (J.stop i H∧D.nx σ H)∨(J.go i H∧∃ N:St→Hp→Prop,(∀ σ' H',N σ' H'→∃ m',m' < m∧W (i+1) m' σ' H')∧∀ x H',J.yld i H x H'→g x σ H' fun σ2 H2=>tb { D with nx:=N,ct:=N,bk:=D.nx } σ2 H2)
theorem tFor_eq {wi:TI} {g:TG} {tb:TS} {D:Ends} {σ:St} {H:Hp}:tFor wi g tb D σ H=wi σ H (ForBody g tb D σ):=rfl
theorem forb_list {K:PySem.W.Frag} {a:Addr} {xs:List V} {g:TG} {tb:TS} {D:Ends} {σ:St} {H:Hp} (Pv:Nat→St→Hp→Prop) (h0:Pv 0 σ H) (hl:∀ i σ H,i≤xs.length→Pv i σ H→SqL K H a xs)
 (hs:∀ i x σ H,xs[i]?=some x→Pv i σ H→g x σ H fun σ2 H2=>tb { D with nx:=Pv (i+1),ct:=Pv (i+1),bk:=D.nx } σ2 H2) (hd:∀ σ H,Pv xs.length σ H→D.nx σ H):ForBody g tb D σ (Itl K a) H:=for_list Pv h0 hl hs hd
theorem forb_range {lo:Int} {n:Nat} {g:TG} {tb:TS} {D:Ends} {σ:St} {H:Hp} (Pv:Nat→St→Hp→Prop) (h0:Pv 0 σ H)
 (hs:∀ i σ H,i < n→Pv i σ H→g (.int (lo+i)) σ H fun σ2 H2=>tb { D with nx:=Pv (i+1),ct:=Pv (i+1),bk:=D.nx } σ2 H2) (hd:∀ σ H,Pv n σ H→D.nx σ H):ForBody g tb D σ (Itr lo n) H:=for_range Pv h0 hs hd
theorem Same.new {H:Hp} {p:Addr} {o:HO} (h:H p=none):Same H (upd H p o):=fun b u e=>by rw [upd_ne (ne_of_none e h)]; exact e
theorem Same.upd' {H H':Hp} {p:Addr} {o:HO} (s:Same H H') (h:H' p=none):Same H (upd H' p o):=s.trans (Same.new h)
abbrev Pr:=Int × Int
def pairO (q:Pr):HO:=.tup [.int q.1,.int q.2]
inductive TupsAt (H:Hp):List Addr→List Pr→Prop
 | nil:TupsAt H [] []
 | cons {a:Addr} {q:Pr} {as:List Addr} {ps:List Pr}:H a=some (pairO q)→TupsAt H as ps→TupsAt H (a :: as) (q :: ps)
theorem TupsAt.len {H:Hp}:∀ {as:List Addr} {ps:List Pr},TupsAt H as ps→as.length=ps.length
 | _,_,.nil=>rfl
 | _,_,.cons _ t=>by rw [List.length_cons,List.length_cons,t.len]
theorem TupsAt.mono {H H':Hp} (k:∀ a q,H a=some (pairO q)→H' a=some (pairO q)):∀ {as:List Addr} {ps:List Pr},TupsAt H as ps→TupsAt H' as ps
 | _,_,.nil=>.nil
 | _,_,.cons h t=>.cons (k _ _ h) (t.mono k)
theorem TupsAt.same {H H':Hp} (s:Same H H') {as:List Addr} {ps:List Pr} (t:TupsAt H as ps):TupsAt H' as ps:=t.mono fun a q h=>s a _ h
theorem TupsAt.upd {H:Hp} {p:Addr} {o u:HO} (hp:H p=some u) (hu:∀ xs,u ≠ .tup xs) {as:List Addr} {ps:List Pr} (t:TupsAt H as ps):TupsAt (upd H p o) as ps:=t.mono fun a q h=>by
 rw [upd_ne (ne_of h hp fun e=>hu _ e.symm)]; exact h
theorem TupsAt.get {H:Hp}:∀ {as:List Addr} {ps:List Pr} {i:Nat} {a:Addr},TupsAt H as ps→as[i]?=some a→∃ q,ps[i]?=some q∧H a=some (pairO q)
 | _,_,0,a,.cons h t,e=>by
  have e:some _=some a:=e
  cases e
  exact ⟨_,rfl,h⟩
 | _,_,i+1,a,.cons h t,e=>t.get (i:=i) (by simpa using e)
 | _,_,_,_,.nil,e=>by simp at e
theorem TupsAt.get' {H:Hp}:∀ {as:List Addr} {ps:List Pr} {i:Nat} {q:Pr},TupsAt H as ps→ps[i]?=some q→∃ a,as[i]?=some a∧H a=some (pairO q)
 | _,_,0,a,.cons h t,e=>by
  have e:some _=some a:=e
  cases e
  exact ⟨_,rfl,h⟩
 | _,_,i+1,a,.cons h t,e=>t.get' (i:=i) (by simpa using e)
 | _,_,_,_,.nil,e=>by simp at e
theorem TupsAt.append {H:Hp}:∀ {as bs:List Addr} {ps qs:List Pr},TupsAt H as ps→TupsAt H bs qs→TupsAt H (as++bs) (ps++qs)
 | _,_,_,_,.nil,s=>s
 | _,_,_,_,.cons h t,s=>.cons h (t.append s)
def PairsAt (K:PySem.W.Frag) (H:Hp) (p:Addr) (ps:List Pr):Prop:=∃ as:List Addr,SqL K H p (as.map V.ref)∧TupsAt H as ps
theorem PairsAt.same {K:PySem.W.Frag} {H H':Hp} (s:Same H H') {p:Addr} {ps:List Pr} (t:PairsAt K H p ps):PairsAt K H' p ps:=let ⟨as,a,b⟩:=t; ⟨as,s.seq a,b.same s⟩
def within (a b:Int):Bool:=decide (0≤a) && decide (a < b)
theorem within_iff {a b:Int}:within a b=true↔0≤a∧a < b:=by simp [within]
def endsOk (n:Int) (ps:List Pr):Bool:=ps.all fun q=>within q.1 n && within q.2 n
def exitsOk (n:Int) (ps:List Pr):Bool:=(List.range n.toNat).all fun k=>ps.any fun q=>q.1 == (k:Int)
def netOk (n:Int) (ps:List Pr):Bool:=(decide (1≤n) && decide (n≤32)) && (decide (1≤ps.length) && decide (ps.length≤64)) && endsOk n ps && exitsOk n ps
end L2
namespace L2
open PySem PySem.Spec PyProof.Rows
theorem lenL {K:PySem.W.Frag} {H:Hp} {p:Addr} {xs:List V} (h:SqL K H p xs):LenV K (.ref p) H xs.length:=Or.inl ⟨_,h,rfl⟩
theorem gtup2 {K:PySem.W.Frag} {g1 g2:TG} {a:Addr} {x y:V} {σ:St} {H:Hp} {Q:St→Hp→Prop} (h:SqT K H a [x,y]) (q:g1 x σ H fun σ' H'=>g2 y σ' H' Q):gTup K 2 (gCons g1 (gCons g2 gNil)) (.ref a) σ H Q:=by
 refine ⟨a,[x,y],rfl,h,rfl,x,[y],rfl,?_⟩
 have e:(fun σ' H'=>gCons g2 gNil [y] σ' H' Q)=fun σ' H'=>∃ v r,[y]=v :: r∧g2 v σ' H' fun σ'' H''=>gNil r σ'' H'' Q:=rfl
 rw [e]
 have e2:(fun (σ':St) (H':Hp)=>∃ v r,[y]=v :: r∧g2 v σ' H' fun σ'' H''=>gNil r σ'' H'' Q)=fun σ' H'=>g2 y σ' H' Q:=by
  funext σ' H'
  refine propext ⟨?_,fun z=>⟨y,[],rfl,?_⟩⟩
  · rintro ⟨v,r,e,z⟩
    cases e
    have:(fun (σ'':St) (H'':Hp)=>gNil [] σ'' H'' Q)=Q:=by funext _ _; exact propext ⟨fun z=>z.2,fun z=>⟨rfl,z⟩⟩
    rw [this] at z
    exact z
  · have:(fun (σ'':St) (H'':Hp)=>gNil [] σ'' H'' Q)=Q:=by funext _ _; exact propext ⟨fun z=>z.2,fun z=>⟨rfl,z⟩⟩
    rw [this]
    exact z
 rw [e2]
 exact q
theorem map_ref {as:List Addr} {i:Nat} {x:V} (h:(as.map V.ref)[i]?=some x):∃ a,x=.ref a∧as[i]?=some a:=by
 rw [List.getElem?_map] at h
 cases e:as[i]? with
 | none=>rw [e] at h; cases h
 | some a=>rw [e] at h; exact ⟨a,(Option.some.inj h).symm,rfl⟩
theorem take_map_succ {α β:Type} (f:α→β) {l:List α} {i:Nat} {q:α} (h:l[i]?=some q):(l.take (i+1)).map f=(l.take i).map f++[f q]:=by
 rw [List.take_add_one,h]; simp
theorem small_le {n:Nat} (h:n≤1000):n≤sizeLine:=Nat.le_of_lt (small1000 h)
def exitsUp (ps:List Pr) (k:Int) (i:Nat):List Nat:=(List.range i).filter fun j=>(ps.getD j (0,0)).1 == k
def exitsOf (ps:List Pr) (k:Int):List Nat:=exitsUp ps k ps.length
theorem exitsUp_succ (ps:List Pr) (k:Int) (i:Nat):exitsUp ps k (i+1)=exitsUp ps k i++(if (ps.getD i (0,0)).1 == k then [i] else []):=by
 unfold exitsUp
 rw [List.range_succ,List.filter_append,List.filter_cons]
 rfl
theorem exitsUp_len (ps:List Pr) (k:Int) (i:Nat):(exitsUp ps k i).length≤i:=by
 unfold exitsUp
 exact Nat.le_trans (List.length_filter_le _ _) (by simp)
def nats (l:List Nat):List V:=l.map fun (i:Nat)=>V.int (i:Int)
theorem nats_append (a b:List Nat):nats (a++b)=nats a++nats b:=by simp [nats]
theorem upd_old {H:Hp} {p a:Addr} {o u:HO} (h:H a=some u) (hp:H p=none):upd H p o a=some u:=by rw [upd_ne (ne_of_none h hp)]; exact h
end L2
namespace L2
open PySem PySem.Spec PyProof.Rows
def kitTT (a b:String):Option Bool:=if ((Value.type a) == (Value.type b))=true then some true else if PySem.W.kitMeta b=true then (fastBuiltinMro a).map (·.contains (.type b)) else none
theorem isi_tt {K:PySem.W.Frag} {a b:String} {r:Bool} (h:kitTT a b=some r):isiOk K (.type a) (.ty b) r:=h
theorem tt_int_int:kitTT "int" "int"=some true:=by decide +kernel
theorem tt_int_bool:kitTT "int" "bool"=some false:=by decide +kernel
theorem tt_list_list:kitTT "list" "list"=some true:=by decide +kernel
theorem flat_ints (xs:List Int):(xs.map V.int).all flatV=true:=by simp [flatV]
theorem nats_int (l:List Nat):nats l=(l.map fun (i:Nat)=>(i:Int)).map V.int:=by simp [nats]
theorem cutV_drop (xs:List V) (k:Nat) (h:k≤xs.length):cutV xs (some (k:Int)) none=xs.drop k:=by
 unfold cutV
 rw [HT.sIx_nat,HT.sIx_none,Nat.min_eq_left h]
 rw [List.take_of_length_le (by simp)]
theorem cutV_take (xs:List V) (k:Nat) (h:k≤xs.length):cutV xs none (some (k:Int))=xs.take k:=by
 unfold cutV
 rw [HT.sIx_nat,HT.sIx_none,Nat.min_eq_left h]
 simp
end L2
namespace L2
open PySem PySem.Spec PyProof.Rows
section
variable {s1 s2 s3 s4 s5 u:TS} {D:Ends} {σ:St} {H:Hp}
theorem seq_cut2 (Mid:St→Hp→Prop) (h1:∀ N:St→Hp→Prop,(∀ σ' H',Mid σ' H'→N σ' H')→tSeq s1 s2 { D with nx:=N } σ H) (h2:∀ σ' H',Mid σ' H'→u D σ' H'):tSeq s1 (tSeq s2 u) D σ H:=h1 (u D) h2
theorem seq_cut3 (Mid:St→Hp→Prop) (h1:∀ N:St→Hp→Prop,(∀ σ' H',Mid σ' H'→N σ' H')→tSeq s1 (tSeq s2 s3) { D with nx:=N } σ H) (h2:∀ σ' H',Mid σ' H'→u D σ' H'):tSeq s1 (tSeq s2 (tSeq s3 u)) D σ H:=h1 (u D) h2
theorem seq_cut5 (Mid:St→Hp→Prop) (h1:∀ N:St→Hp→Prop,(∀ σ' H',Mid σ' H'→N σ' H')→tSeq s1 (tSeq s2 (tSeq s3 (tSeq s4 s5))) { D with nx:=N } σ H) (h2:∀ σ' H',Mid σ' H'→u D σ' H'):tSeq s1 (tSeq s2 (tSeq s3 (tSeq s4 (tSeq s5 u)))) D σ H:=h1 (u D) h2
end
end L2
namespace L2
open PySem PySem.Spec PyProof.Rows
inductive DEq (K:PySem.W.Frag) (H:Hp):Nat→V→V→Bool→Prop
 | flat {d:Nat} {x y:V}:flatV x=true→flatV y=true→DEq K H d x y (eqV x y)
 | same {d:Nat} {a:Addr}:DEq K H d (.ref a) (.ref a) true
 | lsts {d:Nat} {a b:Addr} {xs ys:List V} {e:Nat→Bool}:a ≠ b→SqL K H a xs→SqL K H b ys→xs.length=ys.length→(∀ j x y,xs[j]?=some x→ys[j]?=some y→DEq K H d x y (e j))→DEq K H (d+1) (.ref a) (.ref b) ((List.range xs.length).all e)
 | tups {d:Nat} {a b:Addr} {xs ys:List V} {e:Nat→Bool}:a ≠ b→SqT K H a xs→SqT K H b ys→(∀ j x y,xs[j]?=some x→ys[j]?=some y→DEq K H d x y (e j))→DEq K H (d+1) (.ref a) (.ref b) ((List.range (min xs.length ys.length)).all e && xs.length == ys.length)
theorem vals_at {xs:List V} {us:List Value} (r:Vals xs us) {j:Nat} (h1:j < us.toArray.size):∃ x,xs[j]?=some x∧RelV x us.toArray[j]:=by
 have l:=r.length
 have h1':j < us.length:=by simpa using h1
 obtain ⟨u,e,ru⟩:=r.get (i:=j) (x:=xs[j]'(by omega)) (by simp [l,h1'])
 have:us.toArray[j]=u:=by
  obtain ⟨_,e⟩:=List.getElem?_eq_some_iff.mp e
  simpa using e
 rw [this]
 exact ⟨_,by simp [l,h1'],ru⟩
theorem in1_units (A:Around):A.in1.units=A.units+1:=rfl
theorem eqAt_D {X:Cx} {pins:List (Addr × Obj)} {σ:St} {H:Hp} {s:Shared} (I:Inv X pins σ H s):∀ {d:Nat} {x y:V} {b:Bool},DEq X.K H d x y b→∀ {A:Around} {u v:Value},RelV x u→RelV y v→A.units+d < cLine→SeqAt.EqAt A s u v b:=by
 intro d x y b h
 induction h with
 | flat fx fy=>intro A u v ru rv _; exact eqAt_V ru rv fx fy
 | same=>intro A u v ru rv _; cases ru; cases rv; exact SeqAt.EqAt.same _
 | @lsts d a b xs ys e ne ha hb hl _ ih =>
  intro A u v ru rv hu
  cases ru; cases rv
  obtain ⟨us,r1,p1,_⟩:=I.list ha
  obtain ⟨ws,r2,p2,_⟩:=I.list hb
  have l1:=r1.length
  have l2:=r2.length
  have e1:us.toArray.size=xs.length:=by simp [l1]
  refine SeqAt.EqAt.of_refs ne ?_
  rw [← e1]
  refine SeqAt.RcAt.lists p1.isList p2.isList (by simp; omega) (by omega) fun j h1 h2=>?_
  obtain ⟨x,ex,rx⟩:=vals_at r1 h1
  obtain ⟨y,ey,ry⟩:=vals_at r2 h2
  exact ih j x y ex ey rx ry (by rw [in1_units]; omega)
 | @tups d a b xs ys e ne ha hb _ ih =>
  intro A u v ru rv hu
  cases ru; cases rv
  obtain ⟨us,r1,p1,_⟩:=I.tuple ha
  obtain ⟨ws,r2,p2,_⟩:=I.tuple hb
  have l1:=r1.length
  have l2:=r2.length
  have e1:us.toArray.size=xs.length:=by simp [l1]
  have e2:ws.toArray.size=ys.length:=by simp [l2]
  refine SeqAt.EqAt.of_refs ne ?_
  rw [← e1,← e2]
  refine SeqAt.RcAt.tuples (show s.heap.IsTuple a us.toArray from p1) (show s.heap.IsTuple b ws.toArray from p2) (by omega) fun j h1 h2=>?_
  obtain ⟨x,ex,rx⟩:=vals_at r1 h1
  obtain ⟨y,ey,ry⟩:=vals_at r2 h2
  exact ih j x y ex ey rx ry (by rw [in1_units]; omega)
theorem hu64 {A:Around} {k:Nat} (hr:Room k A):A.units+64 < cLine:=hr.units
theorem seq_cut {t u:TS} {D:Ends} {σ:St} {H:Hp} (Mid:St→Hp→Prop) (h1:∀ N:St→Hp→Prop,(∀ σ' H',Mid σ' H'→N σ' H')→t { D with nx:=N } σ H) (h2:∀ σ' H',Mid σ' H'→u D σ' H'):tSeq t u D σ H:=h1 (u D) h2
section
variable {X:Cx}
def rNeDL (K : PySem.W.Frag) : R2 := fun x y H Q => ∃ a b xs ys e, x = .ref a ∧ y = .ref b ∧ SqL K H a xs ∧ SqL K H b ys ∧ xs.length = ys.length ∧ (∀ j x y, xs[j]? = some x → ys[j]? = some y → DEq K H 20 x y (e j)) ∧ Q (.bl (!((List.range xs.length).all e))) H
theorem op_neDL (hu:X.A.units+64 < cLine):OpR X (compareOp .NotEq) (rNeDL X.K):=by
 intro pins s σ H x y v u Q I rx ry h
 obtain ⟨a,b,xs,ys,e,rfl,rfl,h1,h2,hl,he,q⟩:=h
 cases rx
 cases ry
 obtain ⟨us,r1,p1,_⟩:=I.list h1
 obtain ⟨ws,r2,p2,_⟩:=I.list h2
 have l1:=r1.length
 have l2:=r2.length
 refine SeqAt.RcNeAt.lists (e:=e) p1.isList p2.isList (by simp; omega) (by omega) (fun j h1 h2=>?_) _ _ _ _ ?_
 · obtain ⟨x,ex,rx⟩:=vals_at r1 h1
   obtain ⟨y,ey,ry⟩:=vals_at r2 h2
   exact eqAt_D I (he j x y ex ey) rx ry (by rw [in1_units]; omega)
 · have e1:(us.toArray.size)=xs.length:=by simp [l1]
   rw [e1]
   exact ⟨.bl _,H,I,rfl,q⟩
end
end L2
namespace L2
open PySem PySem.Spec PyProof.Rows
section
variable {X:Cx}
def Big (i:Int):Prop:=i.natAbs < 2 ^ 4000
def CMulB (i j:Int):Prop:=Big i∧Big j
def CDivB (i j:Int):Prop:=0 < j∧Big j
theorem Big.log2 {j:Int} (h:Big j):j.natAbs.log2 < 9000:=by
 by_cases e:j.natAbs=0
 · rw [e]; decide
 · exact Nat.lt_of_lt_of_le ((Nat.log2_lt e).mpr h) (by decide)
theorem Big.bits {j:Int} (h:Big j):Builtin.Int.intBits j≤4000:=intBits_le_iff.mpr h
theorem big_of {j b:Int} (h:j.natAbs≤b.natAbs) (hb:Big b):Big j:=Nat.lt_of_le_of_lt h hb
theorem op_mulB:OpR X (binaryOp .Mult) (rI CMulB fun i j=>.int (i * j)):=opI fun _ _ _ _ _ _ _ hc q=>mul_int q (IntMulOk.of_le hc.1.bits hc.2.bits (by decide))
theorem iop_mulB:OpR X (inplaceOp .Mult) (rI CMulB fun i j=>.int (i * j)):=opI fun _ _ _ _ _ _ _ hc q=>imul_int q (IntMulOk.of_le hc.1.bits hc.2.bits (by decide))
theorem op_fdivB:OpR X (binaryOp .FloorDiv) (rI CDivB fun i j=>.int (i / j)):=opI fun i j _ _ _ _ _ hc q=>by
 have h1:(0:Int) < j:=hc.1
 exact floordiv_int (by omega) (by rw [Int.fdiv_eq_ediv_of_nonneg i (by omega)]; exact q) (.inl (PyProof.noPylong_of_log2 hc.2.log2))
end
end L2
namespace L2
open PySem PySem.Spec PyProof.Rows
theorem Vals.ints:∀ {ns:List Int} {us:List Value},Vals (ns.map V.int) us→∃ xs:List (Int × Tok),us=xs.map (fun p=>Value.int p.1 p.2)∧xs.map (·.1)=ns
 | [],_,.nil=>⟨[],rfl,rfl⟩
 | n :: _,_,.cons r t=>by
  obtain ⟨k,rfl⟩:=r
  obtain ⟨xs,rfl,e⟩:=Vals.ints t
  exact ⟨(n,k) :: xs,rfl,by simp [e]⟩
section
variable {X:Cx}
theorem call_sum (hc:X.calm=true):CallR X (.builtin "sum") (fun xs H Q=>∃ (p:Addr) (ns:List Int),xs=[.ref p]∧SqL X.K H p (ns.map V.int)∧Q (.int ns.sum) H):=by
 intro pins s σ H xs us Q I r h
 obtain ⟨p,ns,rfl,hq,q⟩:=h
 obtain ⟨u,rfl,ru⟩:=vals1 r
 cases ru
 obtain ⟨its,rv,pl,hz⟩:=I.list hq
 obtain ⟨ts,rfl,rfl⟩:=rv.ints
 have e:(ts.map fun p=>Value.int p.1 p.2).toArray=intItems ts.toArray:=by simp [intItems]
 refine sum_intListG (xs:=ts.toArray) (I.ok.hd hc) (by rw [← e]; exact pl.isList) fun h' tk t' hk=>?_
 have e2:preSum (numAt ts.toArray) ts.toArray.size=(ts.map (·.1)).sum:=by
  rw [preSum_eq,List.take_of_length_le (by simp)]
 rw [e2]
 exact ⟨.int _,H,I.kept (t':=tk) hk,⟨_,rfl⟩,q⟩
end
theorem Inv.turnedN {X:Cx} {pins:List (Addr × Obj)} {σ:St} {H:Hp} {s:Shared} {h':Heap} {t':Nat} {ch:List Addr} (I:Inv X pins σ H s) (hf:∀ b∈ch,FpOk X pins H b) (k:∀ b o,b ∉ ch→s.heap.get? b=some o→h'.get? b=some o) :
 Inv X pins σ H { s with heap:=h',toks:=t' }:=by
 have nit:∀ b u,H b=some u→b ∉ ch:=fun b u e z=>by rw [(hf b z).1] at e; cases e
 refine I.step (g':=s.gens) (d':=s.drawn) (ch:=ch) (fun b hb=>⟨(hf b hb).2.2.2.1,(hf b hb).2.1,(hf b hb).2.2.2.2.1,(hf b hb).2.2.2.2.2⟩) (fun b o _ _ hc e _=>k b o hc e) (fun b o _ _ hc e _=>⟨o.slots,k b o hc e⟩) (fun _ _ _ _ n=>n)
  (fun b o hc e=>⟨o,k b o hc e⟩) (fun _ _ e=>e) (fun _ _ _ e=>e) (fun b ps e=>⟨#[],by rw [e]; simp⟩) (fun m hm=>?_) (fun b u e=>?_) I.bare
 · obtain ⟨o,es,ep,ho,r⟩:=hm
   exact ⟨o,es,ep,k _ o (fun z=>(hf _ z).2.1 rfl) ho,r⟩
 · refine (I.hok b u e).stay (fun c v hc q=>k c v ?_ q) (fun _ q=>q) fun _ _ q=>q
   rcases hc with z | z
   · rw [z]; exact nit b u e
   · exact nit c _ z
def Itz (K:PySem.W.Frag) (a b:Addr):It :=
 ⟨fun i H=>∃ xs x ys y,SqL K H a xs∧xs[i]?=some x∧SqL K H b ys∧ys[i]?=some y,fun i H x H'=>∃ p u v,H p=none∧x=.ref p∧H'=upd H p (.tup [u,v])∧(∀ xs,SqL K H a xs→xs[i]?=some u)∧∀ ys,SqL K H b ys→ys[i]?=some v,fun i H=>∃ xs ys,SqL K H a xs∧SqL K H b ys∧(xs.length≤i∨ys.length≤i)⟩
theorem turn_zip {P:Program} {w:World} {K:PySem.W.Frag} {elts:List Expr} {x1} {tpos:Pos} (a b z TI TO i1 i2:Addr) (D:ZipApart z TI TO i1 i2 a b):Turn P w K (.Tuple elts x1 tpos) (Itz K a b) [z,TI,TO,i1,i2] z
 (fun i h=>IsZip h z TI TO .none∧IsPair h TI (.ref i1) (.ref i2)∧(∃ p q,IsPair h TO p q)∧h.IsListIter i1 a i∧h.IsListIter i2 b i) where
 mem:=by simp
 obj:=fun i h ⟨hz,hTI,⟨p,q,hTO⟩,h1,h2⟩ c hc=>by
  have ec:c=z∨c=TI∨c=TO∨c=i1∨c=i2:=by simpa using hc
  rcases ec with rfl | rfl | rfl | rfl | rfl
  · exact ⟨_,hz,fun v z=>by cases z⟩
  · exact ⟨_,hTI,fun v z=>by cases z⟩
  · exact ⟨_,hTO,fun v z=>by cases z⟩
  · obtain ⟨o,e,c,d⟩:=h1
    exact ⟨o,e,fun v z=>by rw [d] at z; cases z⟩
  · obtain ⟨o,e,c,d⟩:=h2
    exact ⟨o,e,fun v z=>by rw [d] at z; cases z⟩
 keep:=fun i h h' ⟨hz,hTI,⟨p,q,hTO⟩,h1,h2⟩ k=>⟨k z (by simp) _ hz,k TI (by simp) _ hTI,⟨p,q,k TO (by simp) _ hTO⟩,h1.at fun o e=>k i1 (by simp) o e,h2.at fun o e=>k i2 (by simp) o e⟩
 item:=by
  intro X hP hw hK hc i pins s σ H E I hf st hg
  subst hP hw hK
  obtain ⟨hz,hTI,⟨p0,q0,hTO⟩,h1,h2⟩:=st
  obtain ⟨xs,x,ys,y,hq1,hx,hq2,hy⟩:=hg
  obtain ⟨its1,rv1,p1,z1⟩:=I.list hq1
  obtain ⟨its2,rv2,p2,z2⟩:=I.list hq2
  obtain ⟨u,hu,ru⟩:=rv1.get hx
  obtain ⟨v,hv,rv⟩:=rv2.get hy
  have lt1:=Heap.lt_size hz
  have lt2:=Heap.lt_size hTI
  have lt3:=Heap.lt_size hTO
  have lt4:i1 < s.heap.objs.size:=by obtain ⟨o,e,_⟩:=id h1; exact Heap.lt_size e
  have lt5:i2 < s.heap.objs.size:=by obtain ⟨o,e,_⟩:=id h2; exact Heap.lt_size e
  refine wpAny_pyNext_zip_item D hz hTI hTO h1 h2 p1.isList p2.isList (x:=u) (y:=v) (by simpa using hu) (by simpa using hv) fun h1' hz1 hTO1 hi1 hi2 ht1 hs1 hk1=>?_
  refine ⟨_,rfl,wpAny_letOwnedTupleGo_zip hz1 fun h2' hz2 hs2=>?_⟩
  have hs2:Heap.SameBut z h1' h2':=hs2
  have k2:∀ c o,c ∉ [z,TI,TO,i1,i2]→s.heap.get? c=some o→h2'.get? c=some o:=fun c o hc q=>by
   have hc:¬ (c=z∨c=TI∨c=TO∨c=i1∨c=i2):=by simpa using hc
   exact (hs2.2 c (fun e=>hc (.inl e))).trans (hk1 c o (fun e=>hc (.inl e)) (fun e=>hc (.inr (.inr (.inl e)))) (fun e=>hc (.inr (.inr (.inr (.inl e))))) (fun e=>hc (.inr (.inr (.inr (.inr e))))) q)
  have hTI2:IsPair h2' TI (.ref i1) (.ref i2):=(hs2.2 _ D.TIz).trans (hk1 _ _ D.TIz D.TITO D.TIi1 D.TIi2 hTI)
  have hTO2:IsPair h2' TO u v:=(hs2.2 _ D.TOz).trans hTO1
  have hi12:h2'.IsListIter i1 a (i+1):=hi1.at fun o e=>(hs2.2 _ D.i1z).trans e
  have hi22:h2'.IsListIter i2 b (i+1):=hi2.at fun o e=>(hs2.2 _ D.i2z).trans e
  have hp:H s.heap.objs.size=none:=I.hok.fresh (Nat.le_refl _)
  have ht2:h2'.get? s.heap.objs.size=some { cls:=.type "tuple",data:=.seq #[u,v] }:=(hs2.2 _ (Nat.ne_of_gt lt1)).trans ht1
  have I2:Inv X pins σ H { s with heap:=h2',toks:=s.toks }:=I.turnedN (ch:=[z,TI,TO,i1,i2]) hf k2
  have I3:Inv X pins σ (upd H s.heap.objs.size (.tup [x,y])) { s with heap:=h2',toks:=s.toks }:=by
   have ok3:HOk X.prog X.w (upd H s.heap.objs.size (.tup [x,y])) h2':=I2.hok.track hp ⟨by show 2≤sizeLine; decide,[u,v],.cons ru (.cons rv .nil),⟨_,ht2,rfl,_,rfl⟩⟩
   refine I.step (g':=s.gens) (d':=s.drawn) (ch:=[z,TI,TO,i1,i2]) (fun b hb=>⟨(hf b hb).2.2.2.1,(hf b hb).2.1,(hf b hb).2.2.2.2.1,(hf b hb).2.2.2.2.2⟩) (fun b o _ _ hc q _=>k2 b o hc q) (fun b o _ _ hc q _=>⟨o.slots,k2 b o hc q⟩)
    (fun b o _ q n=>by rw [upd_ne (Nat.ne_of_lt (Heap.lt_size q))]; exact n) (fun b o hc q=>⟨o,k2 b o hc q⟩) (fun b ys q=>by rw [upd_ne (ne_of_none q hp)]; exact q) (fun b o v q=>by rw [upd_ne (ne_of_none q hp)]; exact q)
    (fun b ps q=>⟨#[],by rw [upd_ne (ne_of_none q hp),q]; simp⟩) (fun m hm=>?_) ok3 I.bare
   obtain ⟨o,es,ep,ho,r⟩:=hm
   exact ⟨o,es,ep,k2 _ o (fun z=>(hf _ z).2.1 rfl) ho,r⟩
  refine ⟨.ref s.heap.objs.size,_,I3,rfl,⟨_,x,y,hp,rfl,rfl,fun ws hw=>by rw [I.list_inj hw hq1]; exact hx,fun ws hw=>by rw [I.list_inj hw hq2]; exact hy⟩,⟨hz2,hTI2,⟨_,_,hTO2⟩,hi12,hi22⟩,fun c hc=>?_⟩
  have ec:c=z∨c=TI∨c=TO∨c=i1∨c=i2:=by simpa using hc
  have hb2:c < s.heap.objs.size:=by
   rcases ec with rfl | rfl | rfl | rfl | rfl <;> assumption
  rw [upd_ne (Nat.ne_of_lt hb2)]
  exact (hf c hc).1
 done:=by
  intro X hP hw hK hc i pins s σ H E I hf st hg
  subst hP hw hK
  obtain ⟨hz,hTI,⟨p0,q0,hTO⟩,h1,h2⟩:=st
  obtain ⟨xs,ys,hq1,hq2,hx⟩:=hg
  obtain ⟨its1,rv1,p1,z1⟩:=I.list hq1
  obtain ⟨its2,rv2,p2,z2⟩:=I.list hq2
  have l1:=rv1.length
  have l2:=rv2.length
  refine wpAny_pyNext_zip_end (I.ok.hd hc) D hz hTI hTO h1 h2 p1.isList p2.isList ?_ fun h' hk=>⟨rfl,?_⟩
  · rcases hx with hx | hx
    · exact .inl (by simp; omega)
    · exact .inr (by simp; omega)
  · refine I.turnedN (t':=s.toks) (ch:=[z,TI,TO,i1,i2]) hf fun c o hc q=>?_
    have hc:¬ (c=z∨c=TI∨c=TO∨c=i1∨c=i2):=by simpa using hc
    exact hk c o (fun e=>hc (.inl e)) (fun e=>hc (.inr (.inr (.inl e)))) (fun e=>hc (.inr (.inr (.inr (.inl e))))) (fun e=>hc (.inr (.inr (.inr (.inr e))))) q
 self:=fun _ _ _ _ _ ⟨hz,_⟩ h=>wpAny_pyIter_zip hz h
def iZip (K:PySem.W.Frag) (ta:TA):TI:=fun σ H R=>ta σ H fun vs H1=>∃ a b,vs=[.ref a,.ref b]∧(∃ xs,SqL K H1 a xs)∧(∃ ys,SqL K H1 b ys)∧R (Itz K a b) H1
theorem pi_zip {X:Cx} {a b:Expr} {ta:TA} {p pos:Pos} {elts:List Expr} {x1} {tpos:Pos} (hg:Gl X "zip") (hm:X.mg "zip"=none) (ha:PA X [a,b] ta)
 (hs:starEach (a :: [b]) X.env=(false,eval a X.env) :: starEach [b] X.env:=by rfl) (hp:(backTo pos (starEach [b] X.env)).any (·.1)=false:=by rfl) :
 PI X (.Tuple elts x1 tpos) (.Call (.Name "zip" p) [a,b] [] pos) (iZip X.K ta):=by
 intro pins s σ H R I h
 refine Call_ (ld_blt I hg hm boot_zip (PyProof.Rows.callWith_type1 (thn (ha pos pins s σ H _ I h) fun us s1 ⟨vs,H1,I1,r1,q1⟩=>?_) hs hp))
 obtain ⟨l1,l2,e,⟨xs,hq1⟩,⟨ys,hq2⟩,q⟩:=q1
 subst e
 obtain ⟨u,v,rfl,ru,rv⟩:=vals2 r1
 cases ru
 cases rv
 obtain ⟨its1,rv1,p1,z1⟩:=I1.list hq1
 obtain ⟨its2,rv2,p2,z2⟩:=I1.list hq2
 have a1:l1 < s1.heap.objs.size:=by obtain ⟨_,e,_⟩:=p1.isList; exact Heap.lt_size e
 have a2:l2 < s1.heap.objs.size:=by obtain ⟨_,e,_⟩:=p2.isList; exact Heap.lt_size e
 refine call_zip_2 p1.isList p2.isList fun h' hz hTI hTO hi1 hi2 hsz hk=>?_
 have I2:Inv X pins σ H1 { s1 with heap:=h' }:=I1.kept (t':=s1.toks) hk
 refine wpAny_pyIter_zip hz ⟨s1.heap.objs.size+4,[s1.heap.objs.size+4,s1.heap.objs.size+2,s1.heap.objs.size+3,s1.heap.objs.size,s1.heap.objs.size+1],_,_,H1,rfl,I2,turn_zip l1 l2 _ _ _ _ _ (zipApart_new a1 a2),⟨hz,hTI,⟨_,_,hTO⟩,hi1,hi2⟩,fun c hc=>?_,q⟩
 have ec:c=s1.heap.objs.size+4∨c=s1.heap.objs.size+2∨c=s1.heap.objs.size+3∨c=s1.heap.objs.size∨c=s1.heap.objs.size+1:=by simpa using hc
 have hle:s1.heap.objs.size≤c:=by
  rcases ec with rfl | rfl | rfl | rfl | rfl
  · exact Nat.le_add_right _ _
  · exact Nat.le_add_right _ _
  · exact Nat.le_add_right _ _
  · exact Nat.le_refl _
  · exact Nat.le_add_right _ _
 exact I1.fpOk hle (I1.hok.fresh hle)
theorem blk_zip {K:PySem.W.Frag} {a b:Addr} {xs ys0:List V} {own:Nat} {ix:List Nat} {g:Blk→TG} {tt:Blk→TT} {te:Blk→TE} {σ0:St} {H0:Hp} {Q:VK} (Pv:Nat→List V→St→Hp→Prop) (hz:xs.length≤sizeLine) (he:xs.length=ys0.length) (h0:Pv 0 [] (blkStart own ix σ0) H0) (hl:∀ i ys σ H,i≤xs.length→Pv i ys σ H→SqL K H a xs∧SqL K H b ys0∧ys.length≤i)
 (hs:∀ bk i x y ys σ H p,xs[i]?=some x→ys0[i]?=some y→Pv i ys σ H→H p=none→g bk (.ref p) σ (upd H p (.tup [x,y])) fun σ2 H2=>tt bk σ2 H2 fun c H3=>if c=true then te bk σ2 H3 fun y H4=>Pv (i+1) (ys++[y]) σ2 H4 else Pv (i+1) ys σ2 H3)
 (hd:∀ ys σ H D,Pv xs.length ys σ H→H D=none→Q (.ref D) (upd H D (.lst ys))) :
 BlkBody own ix g tt te σ0 Q (Itz K a b) H0:=by
 intro bk
 refine ⟨fun i m ys σ H=>m=xs.length - i∧i≤xs.length∧Pv i ys σ H,⟨xs.length,by simp,Nat.zero_le _,h0⟩,?_⟩
 rintro i m ys σ H ⟨rfl,hi,p⟩
 obtain ⟨q,q2,hy⟩:=hl i ys σ H hi p
 by_cases hlt:i < xs.length
 · refine .inr ⟨⟨xs,xs[i],ys0,ys0[i]'(by omega),q,by simp [hlt],q2,by simp⟩,by omega,Pv (i+1),fun ys' σ' H' p'=>⟨xs.length - (i+1),by omega,rfl,hlt,p'⟩,fun x H' y=>?_⟩
   obtain ⟨c,u,v,hb,e1,e2,y1,y2⟩:=y
   subst e1 e2
   exact hs bk i u v ys σ H c (y1 xs q) (y2 ys0 q2) p hb
 · have e:i=xs.length:=by omega
   subst e
   exact .inl ⟨⟨xs,ys0,q,q2,.inl (Nat.le_refl _)⟩,fun D hD=>hd ys σ H D p hD⟩
end L2
namespace L2
open PySem PySem.Spec PyProof.Rows
theorem Vals.intsAre:∀ {ns:List Int} {us:List Value},Vals (ns.map V.int) us→IntsAre us ns
 | [],_,.nil=>.nil
 | n :: _,_,.cons r t=>by
  obtain ⟨k,rfl⟩:=r
  exact .cons n k (Vals.intsAre t)
section
variable {X:Cx}
def tLRng (ta:TA):TE:=fun σ H Q=>ta σ H fun vs H1=>∃ n:Nat,vs=[.int n]∧n≤1000∧∀ l,H1 l=none→Q (.ref l) (upd H1 l (.lst ((List.range n).map fun (i:Nat)=>V.int (i:Int))))
theorem vals_of_items:∀ {n:Nat} {us:List Value},us.length=n→(∀ j v,us[j]?=some v→∃ t,v=Value.int ((j:Nat):Int) t)→Vals ((List.range n).map fun (i:Nat)=>V.int (i:Int)) us:=by
 intro n
 induction n with
 | zero =>
  intro us hl _
  rw [List.length_eq_zero_iff.mp hl]
  exact .nil
 | succ n ih =>
  intro us hl h
  have e:us=us.take n++[us[n]'(by omega)]:=by
   rw [List.take_append_getElem (by omega)]
   rw [List.take_of_length_le (by omega)]
  obtain ⟨t,ht⟩:=h n (us[n]'(by omega)) (by simp)
  rw [e,List.range_succ,List.map_append]
  refine Vals.append (ih (by simp; omega) fun j v hj=>?_) (.cons ⟨t,ht⟩ .nil)
  rw [List.getElem?_take] at hj
  split at hj
  · exact h j v hj
  · cases hj
theorem pe_lrng {a:Expr} {ta:TA} {p p2 pos pos2:Pos} (hc:X.calm=true) (hgl:Gl X "list") (hml:X.mg "list"=none) (hg:Gl X "range") (hm:X.mg "range"=none) (ha:PA X [a] ta)
 (hsl:starEach [Expr.Call (.Name "range" p2) [a] [] pos2] X.env=[(false,eval (.Call (.Name "range" p2) [a] [] pos2) X.env)]:=by rfl)
 (hs:starEach [a] X.env=[(false,eval a X.env)]:=by rfl) :
 PE X (.Call (.Name "list" p) [.Call (.Name "range" p2) [a] [] pos2] [] pos) (tLRng ta):=by
 intro pins s σ H Q I h
 refine wpAny_Call_Name_kw (ld_blt I hgl hml (by decide +kernel:bootBuiltins "list"=some (.type "list")) ?_ (by decide) (by decide))
 refine PyProof.Rows.callWith_type1 ?_ hsl rfl
 rw [hsl]
 show wpAny _ _ (spliced ((false,eval (.Call (.Name "range" p2) [a] [] pos2) X.env) :: [])) _ _ s
 refine Calls.spliced_cons ?_
 refine Call_ (ld_blt I hg hm boot_range (PyProof.Rows.callWith_type1 (thn (ha pos2 pins s σ H _ I h) fun us s1 ⟨vs,H1,I1,r1,q1⟩=>?_) hs rfl))
 obtain ⟨n,e,hn,q⟩:=q1
 subst e
 obtain ⟨u,rfl,t,rfl⟩:=vals1 r1
 refine call_range_1 ?_
 refine Calls.spliced_nil ?_
 have I2:Inv X pins σ H1 { s1 with heap:=s1.heap.push { cls:=.type "range",data:=.fields #[.int 0 s1.toks,.int n t,.int 1 (s1.toks+1)] },toks:=s1.toks+1+1 }:=I1.kept fun b o e=>Heap.get?_push_of_some _ e
 refine call_list_range (n:=n) (I2.ok.hd hc) (IsRange.new ..) (small_one (by omega) (by omega) (by omega) (by omega)) (by rw [rangeSize_one]; split <;> omega) (by omega) fun h' tk acc' c' hk hS hacc=>?_
 have hfr:H1 (s1.heap.push { cls:=.type "range",data:=.fields #[.int 0 s1.toks,.int n t,.int 1 (s1.toks+1)] }).objs.size=none:=I2.hok.fresh (Nat.le_refl _)
 refine ⟨.ref _,_,I2.laid (t':=tk) (o:=.lst ((List.range n).map fun (i:Nat)=>V.int (i:Int))) hk (Nat.le_refl _) ⟨by simp; exact small_le hn,acc'.toList,c',vals_of_items (by rw [Array.length_toList]; exact hacc.1) (fun j v hj=>?_),by rw [Array.toArray_toList]; exact hS⟩,rfl,q _ hfr⟩
 obtain ⟨t',e'⟩:=hacc.2 j v (by rw [← Array.getElem?_toList]; exact hj)
 exact ⟨t',by rw [e']; simp⟩
theorem eqU_int {k i:Int} {t:Tok}:eqU (.int k) (.int i t)=(i == k):=by
 show eqV (.int i) (.int k)=_
 simp [eqV]
theorem count_eqU {k:Int}:∀ {ns:List Int} {us:List Value},Vals (ns.map V.int) us→us.countP (eqU (.int k))=ns.count k
 | [],_,.nil=>rfl
 | n :: ns,_,.cons r t=>by
  obtain ⟨tk,rfl⟩:=r
  rw [List.countP_cons,count_eqU t,List.count_cons,eqU_int]
def rCount (K:PySem.W.Frag):V→List V→Hp→VK→Prop:=fun x vs H Q=>∃ (l:Addr) (ns:List Int) (k:Int),x=.ref l∧vs=[.int k]∧H l=some (.lst (ns.map V.int))∧Q (.int (ns.count k:Nat)) H
theorem mt_count:MtM X "list.count" (rCount X.K):=by
 intro pins s σ H x vs v us Q I rx rv h
 obtain ⟨l,ns,k,rfl,rfl,hH,q⟩:=h
 cases rx
 obtain ⟨u,rfl,ru⟩:=rv.one
 obtain ⟨z,its,n,r,hl,e⟩:=I.lstM hH
 refine call_meets F.slot_list_count ⟨_,e,rfl⟩ F.entry_list_count (F.args_list_count_2 _ _) (SeqAt.list_countAt l its.toArray n none #[] u (eqU (.int k))) ⟨e,fun y hy=>mem_eqAt ru rfl r (flat_ints ns) y (by simpa using hy),?_⟩
 rw [show its.toArray.toList=its from rfl,count_eqU r]
 exact ⟨.int _,H,I.tok _,⟨_,rfl⟩,q⟩
def rIndex:V→List V→Hp→VK→Prop:=fun x vs H Q=>∃ (l:Addr) (ns:List Int) (k:Int) (j:Nat),x=.ref l∧vs=[.int k]∧H l=some (.lst (ns.map V.int))∧ns[j]?=some k∧(∀ i,i < j→ns[i]? ≠ some k)∧Q (.int j) H
theorem mt_index:MtM X "list.index" rIndex:=by
 intro pins s σ H x vs v us Q I rx rv h
 obtain ⟨l,ns,k,j,rfl,rfl,hH,hj,hno,q⟩:=h
 cases rx
 obtain ⟨u,rfl,ru⟩:=rv.one
 obtain ⟨z,its,n,r,hl,e⟩:=I.lstM hH
 have get:∀ (m:Nat) (hm:m < its.length),∃ t,its[m]=Value.int (ns.getD m 0) t∧ns[m]?=some (ns.getD m 0):=fun m hm=>by
  have hmn:m < ns.length:=by rw [List.length_map] at hl; omega
  have hx:(ns.map V.int)[m]?=some (.int ns[m]):=by simp [hmn]
  obtain ⟨w,e1,t,e2⟩:=r.get hx
  have e3:ns.getD m 0=ns[m]:=by rw [List.getD_eq_getElem?_getD]; simp [hmn]
  obtain ⟨_,e4⟩:=List.getElem?_eq_some_iff.mp e1
  exact ⟨t,by rw [e4,e2,e3],by rw [e3]; simp [hmn]⟩
 have hjl:j < its.length:=by
  obtain ⟨a,_⟩:=List.getElem?_eq_some_iff.mp hj
  rw [List.length_map] at hl
  omega
 have hz2:=line63
 rw [List.length_map] at hl z
 refine call_meets F.slot_list_index ⟨_,e,rfl⟩ F.entry_list_index (F.args_list_index_2 _ _) (SeqAt.list_indexAt l its.toArray n none #[] u (eqU (.int k)) j (by simpa using hjl) (by omega) ?_ ?_) ⟨e,fun y hy=>mem_eqAt ru rfl r (flat_ints ns) y (by simpa using hy),?_⟩
 · obtain ⟨t,e1,e2⟩:=get j hjl
   rw [hj] at e2
   have e3:=Option.some.inj e2
   simp only [List.getElem_toArray]
   rw [e1,eqU_int,← e3]
   simp
 · intro m hm hmj
   have hml:m < its.length:=by simpa using hm
   obtain ⟨t,e1,e2⟩:=get m hml
   simp only [List.getElem_toArray]
   rw [e1,eqU_int]
   have:=hno m hmj
   rw [e2] at this
   simp only [beq_eq_false_iff_ne]
   exact fun z=>this (congrArg some z)
 · exact ⟨.int _,H,I.tok _,⟨_,rfl⟩,q⟩
def rGetN (K:PySem.W.Frag):V→V→Hp→VK→Prop:=fun o i H Q=>∃ (p:Addr) (xs:List V) (k:Nat) (z:V),o=.ref p∧i=.int (k:Nat)∧SqL K H p xs∧xs[k]?=some z∧Q z H
theorem get_list:PGet X (rGetN X.K):=by
 intro pins s σ H o i ov iv Q I ro ri h
 obtain ⟨p,xs,k,z,rfl,rfl,hq,he,q⟩:=h
 cases ro
 obtain ⟨t,rfl⟩:=ri
 obtain ⟨its,rv,pl,hz⟩:=I.list hq
 obtain ⟨w,ew,rw'⟩:=rv.get he
 have hl:=rv.length
 have hn:=line63
 have hk:k < its.length:=(List.getElem?_eq_some_iff.mp ew).1
 exact wpAny_getItem_list pl.isList (by omega) (by omega) (by rw [Int.toNat_natCast]; simpa using ew) ⟨z,H,I,rw',q⟩
theorem iop_fdivB:OpR X (inplaceOp .FloorDiv) (rI CDivB fun i j=>.int (i / j)):=opI fun i j _ _ _ _ _ hc q=>by
 have h1:(0:Int) < j:=hc.1
 exact ifloordiv_int (by omega) (by rw [Int.fdiv_eq_ediv_of_nonneg i (by omega)]; exact q) (.inl (PyProof.noPylong_of_log2 hc.2.log2))
end
end L2
namespace L2
open PySem PySem.Spec PyProof.Rows
def Itd (lo:Int) (n:Nat):It:=⟨fun i _=>i < n,fun i H x H'=>H'=H∧x=.int (lo - i),fun i _=>n≤i⟩
theorem turn_down {P:Program} {w:World} {K:PySem.W.Frag} {tg:Expr} (it:Addr) (lo:Int) (n:Nat):Turn P w K tg (Itd lo n) [it] it (fun i h=>IsRangeIter h it (lo+(i:Nat) * (-1)) ((n:Int) - (i:Nat)) (-1)) where
 mem:=by simp
 obj:=fun i h st b hb=>by
  have e:b=it:=by simpa using hb
  subst e
  exact ⟨_,st,fun v z=>by
   have z':Data.fields _=Data.cell v:=z
   cases z'⟩
 keep:=fun i h h' st k=>k it (by simp) _ st
 item:=by
  intro X hP hw hK hc i pins s σ H E I hf st hg
  subst hP hw hK
  obtain ⟨f0,f1,f2,f3,f4,f5⟩:=hf it (by simp)
  have W:=Walks.range (prog:=X.prog) (w:=X.w) (I.ok.hd hc) it lo (-1) n
  refine W.item i s _ _ hg st fun v h' tk hv st' kk=>?_
  obtain ⟨t,rfl⟩:=hv
  have I1:Inv X pins σ H { s with heap:=h',toks:=tk }:=I.turned (fun b o hb e=>kk b o (by simpa using hb) e) f0 f1 f3 f4 f5
  refine ⟨_,rfl,go_of (s:={ s with heap:=h',toks:=tk }) (n:="range_iterator") st' rfl rfl (by decide) ⟨.int (lo - i),H,I1,⟨t,?_⟩,⟨rfl,rfl⟩,st',fun b hb=>(hf b hb).1⟩⟩
  rw [show lo+(i:Int) * (-1)=lo - i by omega]
 done:=by
  intro X hP hw hK hc i pins s σ H E I hf st hg
  subst hP hw hK
  obtain ⟨f0,f1,f2,f3,f4,f5⟩:=hf it (by simp)
  exact wpAny_pyNext_range_end (I.ok.hd hc) st (by have:n≤i:=hg; omega) fun h' eb=>⟨rfl,I.turned (t':=s.toks) (fun b o hb e=>eb b o hb e) f0 f1 f3 f4 f5⟩
 self:=fun _ _ _ _ _ st h=>wpAny_pyIter_rangeiter st h
theorem rangeSize_down (a b:Int):Builtin.Range.rangeSize a b (-1)=if b < a then a - b else 0:=by
 unfold Builtin.Range.rangeSize
 simp only [show ¬ ((-1:Int) > 0) by decide,if_false]
 show (if a > b then (a - b - 1) / - -1+1 else 0)=if b < a then a - b else 0
 rw [show (- -1:Int)=1 by decide,Int.ediv_one]
 by_cases h:b < a
 · rw [if_pos h,if_pos h]; omega
 · rw [if_neg h,if_neg h]
theorem small_down {a b:Int} (ha:0≤a) (ha':a < 2 ^ 60) (hb:0≤b) (hb':b < 2 ^ 60):Builtin.Range.small a b (-1)=true:=by
 unfold Builtin.Range.small
 rw [rangeSize_down]
 simp only [Builtin.Range.rangeFitsLong,Bool.and_eq_true,Bool.or_eq_true,decide_eq_true_eq,beq_iff_eq,show ¬ ((-1:Int) > 0) by decide,if_false]
 split <;> omega
section
variable {X:Cx} {tg:Expr}
theorem range_down {pins:List (Addr × Obj)} {σ:St} {H:Hp} {s:Shared} {R:It→Hp→Prop} {E:Value→Shared→Prop} {lo hi:Int} {t u v:Tok} {tk:Nat} (I:Inv X pins σ H s) (h1:0≤lo) (h2:lo < 2 ^ 60) (h3:0≤hi) (h4:hi < 2 ^ 60)
 (q:R (Itd lo (lo - hi).toNat) H):wpAny (model X.prog X.w) X.A (pyIter (.ref s.heap.objs.size)) (PIE X pins σ tg R) E { s with heap:=s.heap.push { cls:=.type "range",data:=.fields #[.int lo t,.int hi u,.int (-1) v] },toks:=tk }:=by
 refine wpAny_pyIter_range (IsRange.new ..) (small_down h1 h2 h3 h4) ?_
 have I1:Inv X pins σ H { s with heap:=s.heap.push { cls:=.type "range",data:=.fields #[.int lo t,.int hi u,.int (-1) v] },toks:=tk }:=I.kept fun b o e=>Heap.get?_push_of_some _ e
 refine ⟨(s.heap.push { cls:=.type "range",data:=.fields #[.int lo t,.int hi u,.int (-1) v] }).objs.size,[(s.heap.push { cls:=.type "range",data:=.fields #[.int lo t,.int hi u,.int (-1) v] }).objs.size],_,_,H,rfl,
  I1.kept (t':=tk) fun b o e=>Heap.get?_push_of_some _ e,turn_down _ lo (lo - hi).toNat,?_,fun b hb=>?_,q⟩
 · have e1:lo+((0:Nat):Int) * (-1)=lo:=by simp
   have e2:(((lo - hi).toNat:Nat):Int) - ((0:Nat):Int)=Builtin.Range.rangeSize lo hi (-1):=by rw [rangeSize_down]; split <;> omega
   show IsRangeIter _ _ (lo+((0:Nat):Int) * (-1)) ((((lo - hi).toNat:Nat):Int) - ((0:Nat):Int)) (-1)
   rw [e1,e2]
   exact Heap.get?_push_size _ rfl
 · have e:b=(s.heap.push { cls:=.type "range",data:=.fields #[.int lo t,.int hi u,.int (-1) v] }).objs.size:=by simpa using hb
   subst e
   exact I1.fpOk (Nat.le_refl _) (I1.hok.fresh (Nat.le_refl _))
def iRngD (ta:TA):TI:=fun σ H R=>ta σ H fun vs H1=>∃ i j:Int,vs=[.int i,.int j,.int (-1)]∧(0≤i∧i < 2 ^ 60∧0≤j∧j < 2 ^ 60)∧R (Itd i (i - j).toNat) H1
theorem noPylong_down {d:Int} (h1 : -(2 ^ 60)≤d) (h2:d≤2 ^ 60):Builtin.divisionGoesByPylong d (-1)=false:=PyProof.noPylong_small (by omega)
theorem pi_rangeD {a b c:Expr} {ta:TA} {p pos:Pos} (hg:Gl X "range") (hm:X.mg "range"=none) (ha:PA X [a,b,c] ta)
 (hs:starEach [a,b,c] X.env=[(false,eval a X.env),(false,eval b X.env),(false,eval c X.env)]:=by rfl) (hs2:starEach [b,c] X.env=[(false,eval b X.env),(false,eval c X.env)]:=by rfl) :
 PI X tg (.Call (.Name "range" p) [a,b,c] [] pos) (iRngD ta):=by
 intro pins s σ H R I h
 refine Call_ (ld_blt I hg hm boot_range (PyProof.Rows.callWith_type1 (thn (ha pos pins s σ H _ I h) fun us s1 ⟨vs,H1,I1,r1,q1⟩=>?_) (by rw [hs,hs2]) (by rw [hs2]; rfl)))
 obtain ⟨i,j,e,⟨q1,q2,q3,q4⟩,q⟩:=q1
 subst e
 cases r1 with
 | cons r rr =>
  cases rr with
  | cons r' rr =>
   cases rr with
   | cons r'' rr =>
    cases rr
    obtain ⟨t,rfl⟩:=r
    obtain ⟨t',rfl⟩:=r'
    obtain ⟨t'',rfl⟩:=r''
    exact call_range_3 (by decide) (range_down I1 q1 q2 q3 q4 q) (Or.inl (noPylong_down (by omega) (by omega)))
end
theorem forb_down {lo:Int} {n:Nat} {g:TG} {tb:TS} {D:Ends} {σ:St} {H:Hp} (Pv:Nat→St→Hp→Prop) (h0:Pv 0 σ H)
 (hs:∀ i σ H,i < n→Pv i σ H→g (.int (lo - i)) σ H fun σ2 H2=>tb { D with nx:=Pv (i+1),ct:=Pv (i+1),bk:=D.nx } σ2 H2) (hd:∀ σ H,Pv n σ H→D.nx σ H):ForBody g tb D σ (Itd lo n) H:=by
 refine ⟨fun i m σ H=>m=n - i∧i≤n∧Pv i σ H,⟨n,by simp,Nat.zero_le _,h0⟩,?_⟩
 rintro i m σ H ⟨rfl,hi,p⟩
 by_cases hlt:i < n
 · refine .inr ⟨hlt,Pv (i+1),fun σ' H' p'=>⟨n - (i+1),by omega,rfl,hlt,p'⟩,fun x H' y=>?_⟩
   obtain ⟨e,y⟩:=y
   subst e y
   exact hs i σ _ hlt p
 · have e:i=n:=by omega
   subst e
   exact .inl ⟨Nat.le_refl _,hd σ H p⟩
end L2
namespace Srt
open PySem PyProof.Rows
section
variable {prog:Program} {w:World} {A:Around} {E:Value→Shared→Prop} {s:Shared} {κ:KeyKind}
def OneLtAt (κ:KeyKind) (prog:Program) (w:World) (A:Around) (s:Shared):Prop :=
 ∀ (E:Value→Shared→Prop) (x y:Value) (a b:κ.α) {Q:Bool→Shared→Prop},κ.keyOf x=some a→κ.keyOf y=some b→Q (κ.blt a b) s→wpAny (model prog w) A (oneLt' true x y) Q E s
def kp (κ:KeyKind) (p:Keyed):κ.α:=(κ.keyOf p.1).getD κ.dflt
def Has (κ:KeyKind) (p:Keyed):Prop:=∃ a,κ.keyOf p.1=some a
theorem wpS_lt (hO:OneLtAt κ prog w A s) {st:SortSt} {p q:Keyed} {Q:Option Bool→SortSt→Prop} (hk:kindOf st=oneType') (hp:Has κ p) (hq:Has κ q) (h:Q (some (κ.blt (kp κ p) (kp κ q))) st):wpS (model prog w) A E s (lt' p q) Q st:=by
 obtain ⟨a,ha⟩:=hp
 obtain ⟨b,hb⟩:=hq
 have ea:kp κ p=a:=by unfold kp; rw [ha]; rfl
 have eb:kp κ q=b:=by unfold kp; rw [hb]; rfl
 rw [ea,eb] at h
 rw [lt'_eq]
 refine wpS_bind (wpS_get ?_)
 rw [hk,keyLt'_oneType]
 refine wpS_bind (wpS_lift (wpAny_attempt (hO _ p.1 q.1 a b ha hb ⟨rfl,?_⟩)))
 exact wpS_pure h
theorem wpS_elem {arr:Array Keyed} {i:Nat} {p:Keyed} {st:SortSt} {Q:Keyed→SortSt→Prop} (h:arr[i]?=some p) (hq:Q p st):wpS (model prog w) A E s (elem' arr i) Q st:=by
 rw [elem'_eq,h]
 exact wpS_pure hq
def gallop':Bool→Keyed→Array Keyed→Nat→Nat→Nat→StateT SortSt Sem (Option Nat):=sortPriv% PySem.Builtin.gallop
def bey (κ : KeyKind) (left : Bool) (key x : Keyed) : Bool := if left then κ.blt (kp κ x) (kp κ key) else !κ.blt (kp κ key) (kp κ x)
theorem wpS_bey (hO:OneLtAt κ prog w A s) {left:Bool} {key p:Keyed} {arr:Array Keyed} {j:Nat} {st:SortSt} {Q:Option Bool→SortSt→Prop} (hk:kindOf st=oneType') (hkey:Has κ key) (hp:arr[j]?=some p) (hh:Has κ p) (h:Q (some (bey κ left key p)) st) :
 wpS (model prog w) A E s (do let x ← elem' arr j; if left = true then lt' x key else do let r ← lt' key x; pure (Option.map (fun x => !x) r)) Q st := by
 refine wpS_bind (wpS_elem hp ?_)
 cases left with
 | true =>
  rw [if_pos rfl]
  exact wpS_lt hO hk hh hkey h
 | false =>
  rw [if_neg (by decide)]
  exact wpS_bind (wpS_lt hO hk hkey hh (wpS_pure h))
structure Row (κ:KeyKind) (arr:Array Keyed) (base n:Nat):Prop where
 inn:base+n≤arr.size
 has:∀ i,i < n→∀ p,arr[base+i]?=some p→Has κ p
theorem Row.get {arr:Array Keyed} {base n i:Nat} (R:Row κ arr base n) (hi:i < n):∃ p,arr[base+i]?=some p∧Has κ p:=by
 have h:base+i < arr.size:=by have:=R.inn; omega
 exact ⟨arr[base+i],getElem?_pos arr _ h,R.has i hi _ (getElem?_pos arr _ h)⟩
def beyAt (κ:KeyKind) (left:Bool) (key:Keyed) (arr:Array Keyed) (j:Nat):Bool:=match arr[j]? with
 | some p=>bey κ left key p
 | none=>false
theorem wpS_gallop (hO:OneLtAt κ prog w A s) {left:Bool} {key:Keyed} {arr:Array Keyed} {base n hint:Nat} {st:SortSt} {Q:Option Nat→SortSt→Prop} (hk:kindOf st=oneType') (hkey:Has κ key) (R:Row κ arr base n) (hh:hint < n)
 (mono:∀ i j,i≤j→j < n→beyAt κ left key arr (base+j)=true→beyAt κ left key arr (base+i)=true)
 (h:∀ k,k≤n→(∀ i,i < k→beyAt κ left key arr (base+i)=true)→(∀ i,k≤i→i < n→beyAt κ left key arr (base+i)=false)→Q (some k) st) :
 wpS (model prog w) A E s (gallop' left key arr base n hint) Q st:=by
 have ask:∀ {i:Nat} {Q':Option Bool→SortSt→Prop},i < n→Q' (some (beyAt κ left key arr (base+i))) st →
  wpS (model prog w) A E s (do let x ← elem' arr (base + i); if left = true then lt' x key else do let r ← lt' key x; pure (Option.map (fun x => !x) r)) Q' st := fun {i Q'} hi hq => by
  obtain ⟨p,hp,hh⟩:=R.get hi
  refine wpS_bey hO hk hkey hp hh ?_
  unfold beyAt at hq
  rw [hp] at hq
  exact hq
 have fin:∀ (f:Nat→Option (Option Nat) × Nat × Nat→StateT SortSt Sem (ForInStep (Option (Option Nat) × Nat × Nat)))
  (hf:∀ (x l r:Nat) {Q':ForInStep (Option (Option Nat) × Nat × Nat)→SortSt→Prop},r≤n→(l ≥ r→Q' (.done (none,l,r)) st)→(l < r→beyAt κ left key arr (base+(l+(r - l) / 2))=true→Q' (.yield (none,l+(r - l) / 2+1,r)) st) →
   (l < r→beyAt κ left key arr (base+(l+(r - l) / 2))=false→Q' (.yield (none,l,l+(r - l) / 2)) st)→wpS (model prog w) A E s (f x (none,l,r)) Q' st) (lo hi:Nat),
  lo≤hi→hi≤n→(∀ i,i < lo→beyAt κ left key arr (base+i)=true)→(∀ i,hi≤i→i < n→beyAt κ left key arr (base+i)=false) →
  wpS (model prog w) A E s (forIn [:n] ((none,lo,hi):Option (Option Nat) × Nat × Nat) f) (fun c st'=>st'=st∧∃ l,c=(none,l,l)∧l≤n∧(∀ i,i < l→beyAt κ left key arr (base+i)=true)∧(∀ i,l≤i→i < n→beyAt κ left key arr (base+i)=false)) st:=by
  intro f hf lo hi hlh hhn hlo hhi
  refine wpS_forRange (I:=fun x c st'=>st'=st∧∃ l r,c=(none,l,r)∧l≤r∧r≤n∧r - l≤n - x∧(∀ i,i < l→beyAt κ left key arr (base+i)=true)∧(∀ i,r≤i→i < n→beyAt κ left key arr (base+i)=false)) ?step ?fin ⟨rfl,lo,hi,rfl,hlh,hhn,by omega,hlo,hhi⟩
  case fin =>
   rintro c st' ⟨rfl,l,r,rfl,h1,h2,h3,h4,h5⟩
   have:l=r:=by omega
   subst this
   exact ⟨rfl,l,rfl,h2,h4,h5⟩
  case step =>
   rintro x c st' _ hx ⟨rfl,l,r,rfl,h1,h2,h3,h4,h5⟩
   refine hf x l r h2 (fun hge=>?_) (fun hlt hb=>?_) fun hlt hb=>?_
   · have:l=r:=by omega
     subst this
     exact ⟨rfl,l,rfl,h2,h4,h5⟩
   · exact ⟨rfl,l+(r - l) / 2+1,r,rfl,by omega,h2,by omega,fun i hi=>mono i (l+(r - l) / 2) (by omega) (by omega) hb,h5⟩
   · refine ⟨rfl,l,l+(r - l) / 2,rfl,by omega,by omega,by omega,h4,fun i h6 h7=>?_⟩
     cases hc:beyAt κ left key arr (base+i) with
     | false=>rfl
     | true=>rw [mono _ i h6 h7 hc] at hb; cases hb
 unfold gallop'
 refine wpS_bind (ask (i:=hint) hh ?_)
 dsimp only
 cases hb:beyAt κ left key arr (base+hint) with
 | true =>
  rw [if_pos rfl]
  refine wpS_bind (wpS_mono (wpS_forRange (I:=fun x c st'=>st'=st∧∃ la o,c=(none,la,o)∧la < o∧x < o∧hint+la < n∧beyAt κ left key arr (base+(hint+la))=true)
   (Q:=fun c st'=>st'=st∧∃ la o,c=(none,la,o)∧la < o∧hint+la < n∧beyAt κ left key arr (base+(hint+la))=true∧(n - hint≤o∨beyAt κ left key arr (base+(hint+o))=false)) ?step ?fin ⟨rfl,0,1,rfl,by omega,by omega,by omega,hb⟩) ?post)
  case fin =>
   rintro c st' ⟨rfl,la,o,rfl,h1,h2,h3,h4⟩
   exact ⟨rfl,la,o,rfl,h1,h3,h4,Or.inl (by omega)⟩
  case step =>
   rintro x c st' _ hx ⟨rfl,la,o,rfl,h1,h2,h3,h4⟩
   dsimp only
   by_cases hge:o ≥ n - hint
   · rw [if_pos hge]
     exact wpS_pure ⟨rfl,la,o,rfl,h1,h3,h4,Or.inl hge⟩
   · rw [if_neg hge]
     refine wpS_bind (ask (i:=hint+o) (by omega) ?_)
     cases hc:beyAt κ left key arr (base+(hint+o)) with
     | true =>
      dsimp only
      rw [if_neg (by decide)]
      exact wpS_pure ⟨rfl,o,2 * o+1,rfl,by omega,by omega,by omega,hc⟩
     | false =>
      dsimp only
      rw [if_pos (by decide)]
      exact wpS_pure ⟨rfl,la,o,rfl,h1,h3,h4,Or.inr hc⟩
  case post =>
   rintro c st' ⟨rfl,la,o,rfl,h1,h3,h4,h5⟩
   refine wpS_bind (wpS_mono (fin _ ?hf (hint+la+1) (hint+min o (n - hint)) (by omega) (by omega) (fun i hi=>mono i (hint+la) (by omega) h3 h4) fun i h6 h7=>?_) ?hp)
   case hp =>
    rintro c st'' ⟨rfl,l,rfl,g1,g2,g3⟩
    exact wpS_pure (h l g1 g2 g3)
   case hf =>
    intro x l r Q' hr q1 q2 q3
    dsimp only
    by_cases hge:l ≥ r
    · rw [if_pos hge]
      exact wpS_pure (q1 hge)
    · rw [if_neg hge]
      refine wpS_bind (ask (i:=l+(r - l) / 2) (by omega) ?_)
      cases hb2:beyAt κ left key arr (base+(l+(r - l) / 2)) with
      | true=>exact wpS_pure (q2 (by omega) hb2)
      | false=>exact wpS_pure (q3 (by omega) hb2)
   rcases h5 with h5 | h5
   · omega
   · cases hc:beyAt κ left key arr (base+i) with
     | false=>rfl
     | true=>rw [mono (hint+o) i (by omega) h7 hc] at h5; cases h5
 | false =>
  rw [if_neg (by decide)]
  refine wpS_bind (wpS_mono (wpS_forRange (I:=fun x c st'=>st'=st∧∃ la o,c=(none,la,o)∧la < o∧x < o∧la≤hint∧beyAt κ left key arr (base+(hint - la))=false)
   (Q:=fun c st'=>st'=st∧∃ la o,c=(none,la,o)∧la < o∧la≤hint∧beyAt κ left key arr (base+(hint - la))=false∧(hint+1≤o∨beyAt κ left key arr (base+(hint - o))=true)) ?step2 ?fin2 ⟨rfl,0,1,rfl,by omega,by omega,by omega,hb⟩) ?post2)
  case fin2 =>
   rintro c st' ⟨rfl,la,o,rfl,h1,h2,h3,h4⟩
   exact ⟨rfl,la,o,rfl,h1,h3,h4,Or.inl (by omega)⟩
  case step2 =>
   rintro x c st' _ hx ⟨rfl,la,o,rfl,h1,h2,h3,h4⟩
   dsimp only
   by_cases hge:o ≥ hint+1
   · rw [if_pos hge]
     exact wpS_pure ⟨rfl,la,o,rfl,h1,h3,h4,Or.inl hge⟩
   · rw [if_neg hge]
     refine wpS_bind (ask (i:=hint - o) (by omega) ?_)
     cases hc:beyAt κ left key arr (base+(hint - o)) with
     | false =>
      dsimp only
      rw [if_neg (by decide)]
      exact wpS_pure ⟨rfl,o,2 * o+1,rfl,by omega,by omega,by omega,hc⟩
     | true =>
      dsimp only
      rw [if_pos rfl]
      exact wpS_pure ⟨rfl,la,o,rfl,h1,h3,h4,Or.inr hc⟩
  case post2 =>
   rintro c st' ⟨rfl,la,o,rfl,h1,h3,h4,h5⟩
   refine wpS_bind (wpS_mono (fin _ ?hf2 (hint+1 - min o (hint+1)) (hint - la) (by omega) (by omega) (fun i hi=>?_) fun i h6 h7=>?_) ?hp2)
   case hp2 =>
    rintro c st'' ⟨rfl,l,rfl,g1,g2,g3⟩
    exact wpS_pure (h l g1 g2 g3)
   case hf2 =>
    intro x l r Q' hr q1 q2 q3
    dsimp only
    by_cases hge:l ≥ r
    · rw [if_pos hge]
      exact wpS_pure (q1 hge)
    · rw [if_neg hge]
      refine wpS_bind (ask (i:=l+(r - l) / 2) (by omega) ?_)
      cases hb2:beyAt κ left key arr (base+(l+(r - l) / 2)) with
      | true=>exact wpS_pure (q2 (by omega) hb2)
      | false=>exact wpS_pure (q3 (by omega) hb2)
   · rcases h5 with h5 | h5
     · omega
     · exact mono i (hint - o) (by omega) (by omega) h5
   · cases hc:beyAt κ left key arr (base+i) with
     | false=>rfl
     | true=>rw [mono (hint - la) i (by omega) h7 hc] at h4; cases h4
end
end Srt
namespace Srt
open PySem PyProof.Rows
section
variable {κ:KeyKind}
def le (κ:KeyKind) (p q:Keyed):Prop:=κ.kle (kp κ p) (kp κ q)
theorem le_trans {p q r:Keyed} (h1:le κ p q) (h2:le κ q r):le κ p r:=KeyOrd.kle_trans h1 h2
structure MI (κ:KeyKind) (a b out:List Keyed) (ia ib:Nat):Prop where
 la:ia≤a.length
 lb:ib≤b.length
 pm:out.Perm (a.take ia++b.take ib)
 sa:(out++a.drop ia).Pairwise (le κ)
 sb:(out++b.drop ib).Pairwise (le κ)
variable {a b out:List Keyed} {ia ib:Nat}
theorem MI.takeA {X r:List Keyed} (I:MI κ a b out ia ib) (h:a.drop ia=X++r) (hl:∀ p∈X,∀ q∈b.drop ib,le κ p q):MI κ a b (out++X) (ia+X.length) ib:=by
 have hr:a.drop (ia+X.length)=r:=by rw [← List.drop_drop,h,List.drop_left]
 have hlen:X.length≤a.length - ia:=by
  have:=congrArg List.length h
  rw [List.length_drop,List.length_append] at this
  omega
 have hla:=I.la
 have ht:a.take (ia+X.length)=a.take ia++X:=by rw [List.take_add,h,List.take_left]
 refine ⟨by omega,I.lb,?_,?_,?_⟩
 · rw [ht]
   have h1:=I.pm.append_right X
   refine h1.trans ?_
   rw [List.append_assoc,List.append_assoc]
   exact List.Perm.append_left _ List.perm_append_comm
 · rw [hr,List.append_assoc,← h]
   exact I.sa
 · have s1:=I.sa
   have s2:=I.sb
   rw [h] at s1
   rw [List.pairwise_append] at s1 s2
   obtain ⟨o1,x1,ox⟩:=s1
   obtain ⟨_,b1,ob⟩:=s2
   rw [List.pairwise_append] at x1
   rw [List.append_assoc,List.pairwise_append]
   refine ⟨o1,?_,fun p hp q hq=>?_⟩
   · rw [List.pairwise_append]
     exact ⟨x1.1,b1,hl⟩
   · rcases List.mem_append.mp hq with hq | hq
     · exact ox p hp q (List.mem_append_left _ hq)
     · exact ob p hp q hq
theorem MI.takeB {X r:List Keyed} (I:MI κ a b out ia ib) (h:b.drop ib=X++r) (hl:∀ p∈X,∀ q∈a.drop ia,le κ p q):MI κ a b (out++X) ia (ib+X.length):=by
 have hr:b.drop (ib+X.length)=r:=by rw [← List.drop_drop,h,List.drop_left]
 have hlen:X.length≤b.length - ib:=by
  have:=congrArg List.length h
  rw [List.length_drop,List.length_append] at this
  omega
 have hlb:=I.lb
 have ht:b.take (ib+X.length)=b.take ib++X:=by rw [List.take_add,h,List.take_left]
 refine ⟨I.la,by omega,?_,?_,?_⟩
 · rw [ht,← List.append_assoc]
   exact I.pm.append_right X
 · have s1:=I.sb
   have s2:=I.sa
   rw [h] at s1
   rw [List.pairwise_append] at s1 s2
   obtain ⟨o1,x1,ox⟩:=s1
   obtain ⟨_,b1,ob⟩:=s2
   rw [List.pairwise_append] at x1
   rw [List.append_assoc,List.pairwise_append]
   refine ⟨o1,?_,fun p hp q hq=>?_⟩
   · rw [List.pairwise_append]
     exact ⟨x1.1,b1,hl⟩
   · rcases List.mem_append.mp hq with hq | hq
     · exact ox p hp q (List.mem_append_left _ hq)
     · exact ob p hp q hq
 · rw [hr,List.append_assoc,← h]
   exact I.sb
theorem MI.endB (I:MI κ a b out ia ib) (h:ib=b.length):(out++a.drop ia++b.drop ib).Perm (a++b)∧(out++a.drop ia++b.drop ib).Pairwise (le κ):=by
 have e:b.drop ib=[]:=by rw [h,List.drop_length]
 have e2:b.take ib=b:=by rw [h,List.take_length]
 rw [e,List.append_nil]
 refine ⟨?_,I.sa⟩
 have h1:=I.pm.append_right (a.drop ia)
 rw [e2] at h1
 refine h1.trans ?_
 refine (List.Perm.append_right _ List.perm_append_comm).trans ?_
 rw [List.append_assoc,List.take_append_drop]
 exact List.perm_append_comm
theorem MI.endA (I:MI κ a b out ia ib) (h:ia=a.length):(out++a.drop ia++b.drop ib).Perm (a++b)∧(out++a.drop ia++b.drop ib).Pairwise (le κ):=by
 have e:a.drop ia=[]:=by rw [h,List.drop_length]
 have e2:a.take ia=a:=by rw [h,List.take_length]
 rw [e,List.append_nil]
 refine ⟨?_,I.sb⟩
 have h1:=I.pm.append_right (b.drop ib)
 rw [e2] at h1
 refine h1.trans ?_
 rw [List.append_assoc,List.take_append_drop]
theorem MI.lastA (I:MI κ a b out ia ib) (h:ia+1=a.length) (hl:∀ p∈b,∀ q,a.getLast?=some q→le κ p q):(out++b.drop ib++a.drop ia).Perm (a++b)∧(out++b.drop ib++a.drop ia).Pairwise (le κ):=by
 have e:∃ z,a.drop ia=[z]∧a.getLast?=some z:=by
  refine ⟨a[ia]'(by omega),?_,?_⟩
  · rw [List.drop_eq_getElem_cons (by omega),List.drop_of_length_le (by omega)]
  · rw [List.getLast?_eq_getElem?,show a.length - 1=ia by omega,List.getElem?_eq_getElem (by omega)]
 obtain ⟨z,e1,e2⟩:=e
 refine ⟨?_,?_⟩
 · have h1:=I.pm.append_right (b.drop ib++a.drop ia)
   rw [← List.append_assoc] at h1
   refine h1.trans ?_
   rw [List.append_assoc,← List.append_assoc (b.take ib),List.take_append_drop]
   refine (List.Perm.append_left _ List.perm_append_comm).trans ?_
   rw [← List.append_assoc,List.take_append_drop]
 · have s1:=I.sa
   have s2:=I.sb
   rw [e1] at s1 ⊢
   rw [List.pairwise_append] at s1 ⊢
   refine ⟨s2,List.pairwise_singleton _ _,fun p hp q hq=>?_⟩
   have hq:q=z:=by simpa using hq
   subst hq
   rcases List.mem_append.mp hp with hp | hp
   · exact s1.2.2 p hp q (by simp)
   · exact hl p (List.mem_of_mem_drop hp) q e2
end
end Srt
namespace Srt
open PySem PyProof.Rows
section
variable {prog:Program} {w:World} {A:Around} {E:Value→Shared→Prop} {s:Shared} {κ:KeyKind}
def lt (κ:KeyKind) (p q:Keyed):Prop:=κ.klt (kp κ p) (kp κ q)
theorem lt.le {p q:Keyed} (h:lt κ p q):le κ p q:=KeyOrd.kle_of_klt h
theorem le_rfl {p:Keyed}:Srt.le κ p p:=KeyOrd.kle_refl _
theorem bey_mono {left:Bool} {key p q:Keyed} (h:Srt.le κ p q) (hb:bey κ left key q=true):bey κ left key p=true:=by
 unfold bey at hb ⊢
 cases left with
 | true=>exact KeyOrd.klt_of_kle_of_klt h hb
 | false =>
  have h1:κ.blt (kp κ key) (kp κ q)=false:=by
   have : (!κ.blt (kp κ key) (kp κ q)) = true := hb
   revert this; cases κ.blt (kp κ key) (kp κ q) <;> decide
  have h2:κ.blt (kp κ key) (kp κ p)=false:=KeyOrd.kle_trans h (show κ.kle _ _ from h1)
  show (!κ.blt (kp κ key) (kp κ p)) = true
  rw [h2]; rfl
theorem bey_lt {key p:Keyed}:bey κ true key p=true→lt κ p key:=fun h=>h
theorem bey_ge {key p:Keyed}:bey κ true key p=false→Srt.le κ key p:=fun h=>h
theorem bey_le {key p:Keyed} (h:bey κ false key p=true):Srt.le κ p key:=by
 have : (!κ.blt (kp κ key) (kp κ p)) = true := h
 show κ.blt (kp κ key) (kp κ p)=false
 revert this; cases κ.blt (kp κ key) (kp κ p) <;> decide
theorem bey_gt {key p:Keyed} (h:bey κ false key p=false):lt κ key p:=by
 have : (!κ.blt (kp κ key) (kp κ p)) = false := h
 show κ.blt (kp κ key) (kp κ p)=true
 revert this; cases κ.blt (kp κ key) (kp κ p) <;> decide
theorem pw_idx {L:List Keyed} (hs:L.Pairwise (Srt.le κ)) {i j:Nat} (hij:i≤j) (hj:j < L.length):Srt.le κ (L[i]'(by omega)) L[j]:=by
 rcases Nat.lt_or_ge i j with h | h
 · exact List.pairwise_iff_getElem.mp hs i j _ hj h
 · have:i=j:=by omega
   subst this; exact le_rfl
theorem wpS_gallopL (hO:OneLtAt κ prog w A s) {left:Bool} {key:Keyed} {arr:Array Keyed} {base n hint:Nat} {st:SortSt} {Q:Option Nat→SortSt→Prop} {L:List Keyed} (hk:kindOf st=oneType') (hkey:Has κ key) (hin:base+n≤arr.size)
 (hL:(arr.toList.drop base).take n=L) (hh:∀ p∈L,Has κ p) (hs:L.Pairwise (Srt.le κ)) (hi:hint < n)
 (h:∀ k,k≤n→(∀ p∈L.take k,bey κ left key p=true)→(∀ p∈L.drop k,bey κ left key p=false)→Q (some k) st) :
 wpS (model prog w) A E s (gallop' left key arr base n hint) Q st:=by
 have len:L.length=n:=by
  rw [← hL,List.length_take,List.length_drop,Array.length_toList]; omega
 have idx:∀ i (hi:i < n),arr[base+i]?=some (L[i]'(by omega)):=fun i hi=>by
  rw [← List.getElem?_eq_getElem,← hL,List.getElem?_take,if_pos hi,List.getElem?_drop,Array.getElem?_toList]
 have at_:∀ i (hi:i < n),beyAt κ left key arr (base+i)=bey κ left key (L[i]'(by omega)):=fun i hi=>by
  unfold beyAt; rw [idx i hi]
 refine wpS_gallop hO hk hkey ⟨hin,fun i hi p hp=>?_⟩ hi (fun i j hij hj hb=>?_) fun k hkn h1 h2=>h k hkn (fun p hp=>?_) fun p hp=>?_
 · rw [idx i hi] at hp
   cases hp
   exact hh _ (List.getElem_mem _)
 · rw [at_ j hj] at hb
   rw [at_ i (by omega)]
   exact bey_mono (pw_idx hs hij (by omega)) hb
 · obtain ⟨i,hi,rfl⟩:=List.getElem_of_mem hp
   rw [List.length_take] at hi
   rw [List.getElem_take,← at_ i (by omega)]
   exact h1 i (by omega)
 · obtain ⟨i,hi,rfl⟩:=List.getElem_of_mem hp
   rw [List.length_drop] at hi
   rw [List.getElem_drop,← at_ (k+i) (by omega)]
   exact h2 (k+i) (by omega) (by omega)
def mergeLo':Array Keyed→Array Keyed→StateT SortSt Sem (Array Keyed):=sortPriv% PySem.Builtin.mergeLo
def mergeHi':Array Keyed→Array Keyed→StateT SortSt Sem (Array Keyed):=sortPriv% PySem.Builtin.mergeHi
def setMG':Nat→StateT SortSt Sem Unit:=sortPriv% PySem.Builtin.setMinGallop
def setG (st:SortSt) (g:Nat):SortSt:=SortSt.mk' (kindOf st) (arrOf st) (pendingOf st) g (failedOf st)
theorem all_one {P G:Nat→Prop} (h1:∀ y,P y→P (y - 1)→G y) (h:∀ m,P m):∀ y,G y:=fun y=>h1 y (h y) (h (y - 1))
theorem by_key {α β:Type} {Inv P:α→β→Prop} {G:Prop} (h1:(∀ o i,Inv o i→P o i)→G) (h:∀ o i,Inv o i→P o i):G:=h1 h
theorem wpS_setMG {g g':Nat} {st:SortSt} {Q:Unit→SortSt→Prop} (h:Q () (setG st g)):wpS (model prog w) A E s (setMG' g) Q (setG st g'):=by
 unfold setMG'
 exact wpS_modify h
def Good (κ:KeyKind) (a b:Array Keyed) (r:Array Keyed):Prop:=r.toList.Perm (a.toList++b.toList)∧r.toList.Pairwise (Srt.le κ)
theorem tl_ext {a:Array Keyed} {i:Nat}:(a.extract i).toList=a.toList.drop i:=by
 rw [Array.toList_extract,List.extract_eq_take_drop]
 rw [List.take_of_length_le]
 rw [List.length_drop,Array.length_toList]; omega
theorem tl_ext2 {a:Array Keyed} {i k:Nat}:(a.extract i (i+k)).toList=(a.toList.drop i).take k:=by
 rw [Array.toList_extract,List.extract_eq_take_drop,Nat.add_sub_cancel_left]
theorem good_done {a b out:Array Keyed} {ia ib:Nat} (I:MI κ a.toList b.toList out.toList ia ib) (h:ib=b.size∨ia=a.size):Good κ a b (out++a.extract ia++b.extract ib):=by
 unfold Good
 rw [Array.toList_append,Array.toList_append,tl_ext,tl_ext]
 rcases h with h | h
 · exact I.endB (by rw [h,Array.length_toList])
 · exact I.endA (by rw [h,Array.length_toList])
theorem good_last {a b out:Array Keyed} {ia ib:Nat} (I:MI κ a.toList b.toList out.toList ia ib) (h:ia+1=a.size) (hl:∀ p∈b.toList,∀ q,a.toList.getLast?=some q→Srt.le κ p q):Good κ a b (out++b.extract ib++a.extract ia):=by
 unfold Good
 rw [Array.toList_append,Array.toList_append,tl_ext,tl_ext]
 exact I.lastA (by rw [h,Array.length_toList]) hl
theorem mi_pushB {a b out:Array Keyed} {ia ib:Nat} {p:Keyed} (I:MI κ a.toList b.toList out.toList ia ib) (hp:b[ib]?=some p) (hl:∀ q∈a.toList.drop ia,Srt.le κ p q):MI κ a.toList b.toList (out.push p).toList ia (ib+1):=by
 have hd:b.toList.drop ib=[p]++b.toList.drop (ib+1):=by
  obtain ⟨h1,h2⟩:=Array.getElem?_eq_some_iff.mp hp
  rw [List.drop_eq_getElem_cons (by rw [Array.length_toList]; exact h1),Array.getElem_toList,h2]; rfl
 rw [Array.toList_push]
 exact I.takeB hd fun x hx q hq=>by
  have:x=p:=by simpa using hx
  subst this; exact hl q hq
theorem mi_pushA {a b out:Array Keyed} {ia ib:Nat} {p:Keyed} (I:MI κ a.toList b.toList out.toList ia ib) (hp:a[ia]?=some p) (hl:∀ q∈b.toList.drop ib,Srt.le κ p q):MI κ a.toList b.toList (out.push p).toList (ia+1) ib:=by
 have hd:a.toList.drop ia=[p]++a.toList.drop (ia+1):=by
  obtain ⟨h1,h2⟩:=Array.getElem?_eq_some_iff.mp hp
  rw [List.drop_eq_getElem_cons (by rw [Array.length_toList]; exact h1),Array.getElem_toList,h2]; rfl
 rw [Array.toList_push]
 exact I.takeA hd fun x hx q hq=>by
  have:x=p:=by simpa using hx
  subst this; exact hl q hq
theorem mi_catA {a b out:Array Keyed} {ia ib k:Nat} (I:MI κ a.toList b.toList out.toList ia ib) (hk:k≤a.size - ia) (hl:∀ p∈(a.toList.drop ia).take k,∀ q∈b.toList.drop ib,Srt.le κ p q):MI κ a.toList b.toList (out++a.extract ia (ia+k)).toList (ia+k) ib:=by
 rw [Array.toList_append,tl_ext2]
 have h:=I.takeA (X:=(a.toList.drop ia).take k) (r:=(a.toList.drop ia).drop k) (List.take_append_drop ..).symm hl
 rw [List.length_take,List.length_drop,Array.length_toList,Nat.min_eq_left hk] at h
 exact h
theorem mi_catB {a b out:Array Keyed} {ia ib k:Nat} (I:MI κ a.toList b.toList out.toList ia ib) (hk:k≤b.size - ib) (hl:∀ p∈(b.toList.drop ib).take k,∀ q∈a.toList.drop ia,Srt.le κ p q):MI κ a.toList b.toList (out++b.extract ib (ib+k)).toList ia (ib+k):=by
 rw [Array.toList_append,tl_ext2]
 have h:=I.takeB (X:=(b.toList.drop ib).take k) (r:=(b.toList.drop ib).drop k) (List.take_append_drop ..).symm hl
 rw [List.length_take,List.length_drop,Array.length_toList,Nat.min_eq_left hk] at h
 exact h
theorem drop_ge {a:Array Keyed} (sa:a.toList.Pairwise (Srt.le κ)) {i:Nat} {p:Keyed} (hp:a[i]?=some p):∀ q∈a.toList.drop i,Srt.le κ p q:=fun q hq=>by
 obtain ⟨j,hj,rfl⟩:=List.getElem_of_mem hq
 obtain ⟨h1,rfl⟩:=Array.getElem?_eq_some_iff.mp hp
 rw [List.getElem_drop,← Array.getElem_toList]
 rw [List.length_drop] at hj
 exact pw_idx sa (Nat.le_add_right _ _) (by omega)
theorem mem_at {a:Array Keyed} {i:Nat} {p:Keyed} (hp:a[i]?=some p):p∈a.toList:=by
 obtain ⟨h1,rfl⟩:=Array.getElem?_eq_some_iff.mp hp
 rw [← Array.getElem_toList]
 exact List.getElem_mem _
end
end Srt
namespace Srt
open PySem PyProof.Rows
section
variable {prog:Program} {w:World} {A:Around} {E:Value→Shared→Prop} {s:Shared} {κ:KeyKind}
theorem drop_all {a:Array Keyed} {i:Nat}:(a.toList.drop i).take (a.size - i)=a.toList.drop i:=by
 rw [List.take_of_length_le]; rw [List.length_drop,Array.length_toList]; omega
theorem wpS_mergeLo (hO:OneLtAt κ prog w A s) {a b:Array Keyed} {st:SortSt} {Q:Array Keyed→SortSt→Prop} (hk:kindOf st=oneType') (ha:∀ p∈a.toList,Has κ p) (hb:∀ p∈b.toList,Has κ p)
 (sa:a.toList.Pairwise (Srt.le κ)) (sb:b.toList.Pairwise (Srt.le κ)) (hb0:∀ p,b[0]?=some p→∀ q∈a.toList,Srt.le κ p q) (hl:∀ p∈b.toList,∀ q,a.toList.getLast?=some q→Srt.le κ p q) (na:1≤a.size) (nb:1≤b.size)
 (h:∀ r g,Good κ a b r→Q r (setG st g)):wpS (model prog w) A E s (mergeLo' a b) Q st:=by
 have atA:∀ i,i < a.size→∃ p,a[i]?=some p∧Has κ p:=fun i hi=>⟨a[i],getElem?_pos a i hi,ha _ (mem_at (getElem?_pos a i hi))⟩
 have atB:∀ i,i < b.size→∃ p,b[i]?=some p∧Has κ p:=fun i hi=>⟨b[i],getElem?_pos b i hi,hb _ (mem_at (getElem?_pos b i hi))⟩
 have hst:st=setG st (gallopOf st):=rfl
 have hkg:∀ g,kindOf (setG st g)=oneType':=fun g=>hk
 obtain ⟨b0,e0,_⟩:=atB 0 (by omega)
 have I0:MI κ a.toList b.toList (#[b0]:Array Keyed).toList 0 1:=by
  have I:MI κ a.toList b.toList (#[]:Array Keyed).toList 0 0:=⟨Nat.zero_le _,Nat.zero_le _,.refl _,sa,sb⟩
  exact mi_pushB I e0 (hb0 b0 e0)
 unfold mergeLo'
 refine wpS_bind (wpS_lift (wpAny_rule ⟨rfl,?_⟩))
 refine wpS_bind (wpS_elem e0 ?_)
 try dsimp only
 by_cases c1:1=b.size
 · rw [if_pos (by simpa using c1)]
   exact wpS_pure (h _ (gallopOf st) (good_done I0 (.inl c1)))
 rw [if_neg (by simpa using c1)]
 by_cases c2:0+1=a.size
 · rw [if_pos (by simpa using c2)]
   exact wpS_pure (h _ (gallopOf st) (good_last I0 c2 hl))
 rw [if_neg (by simpa using c2)]
 refine wpS_bind (wpS_get ?_)
 refine wpS_bind (wpS_mono (wpS_forRange
  (I:=fun x c st'=>∃ out ia ib mg g,c=(none,out,ia,ib,mg)∧st'=setG st g∧MI κ a.toList b.toList out.toList ia ib∧ia+1 < a.size∧ib < b.size∧x < ia+ib)
  (Q:=fun c st'=>∃ r z g,c=(some r,z)∧st'=setG st g∧Good κ a b r) ?step ?fin ⟨_,0,1,_,_,rfl,hst,I0,by omega,by omega,by omega⟩) ?post)
 case post =>
  rintro c st' ⟨r,z,g,rfl,rfl,hr⟩
  exact wpS_pure (h r g hr)
 case fin =>
  rintro c st' ⟨out,ia,ib,mg,g,rfl,rfl,I,h1,h2,h3⟩
  omega
 case step =>
  rintro x c st' _ hx ⟨out,ia,ib,mg,g,rfl,rfl,I,h1,h2,h3⟩
  try dsimp only
  refine wpS_bind (wpS_mono (wpS_forRange
   (I:=fun x' c st'=>∃ out ia' ib' ac bc,c=(none,out,ia',ib',ac,bc)∧st'=setG st g∧MI κ a.toList b.toList out.toList ia' ib'∧ia'+1 < a.size∧ib' < b.size∧ia+ib≤ia'+ib'∧(0 < x'→ia+ib < ia'+ib'))
   (Q:=fun c st'=>st'=setG st g∧((∃ r z,c=(some r,z)∧Good κ a b r)∨∃ out ia' ib' ac bc,c=(none,out,ia',ib',ac,bc)∧MI κ a.toList b.toList out.toList ia' ib'∧ia'+1 < a.size∧ib' < b.size∧ia+ib < ia'+ib')) ?step1 ?fin1 ⟨out,ia,ib,0,0,rfl,rfl,I,h1,h2,Nat.le_refl _,by omega⟩) ?post1)
  case fin1 =>
   rintro c st' ⟨out,ia',ib',ac,bc,rfl,rfl,I,h1,h2,h3,h4⟩
   exact ⟨rfl,.inr ⟨_,_,_,_,_,rfl,I,h1,h2,h4 (by omega)⟩⟩
  case step1 =>
   rintro x' c st' _ hx' ⟨out,ia',ib',ac,bc,rfl,rfl,I,g1,g2,g3,g4⟩
   try dsimp only
   obtain ⟨p,hp,Hp⟩:=atB ib' g2
   obtain ⟨q,hq,Hq⟩:=atA ia' (by omega)
   refine wpS_bind (wpS_elem hp (wpS_bind (wpS_elem hq (wpS_bind (wpS_lt hO (hkg g) Hp Hq ?_)))))
   try dsimp only
   cases hw:κ.blt (kp κ p) (kp κ q) with
   | true =>
    rw [if_pos rfl]
    refine wpS_bind (wpS_elem hp ?_)
    try dsimp only
    have I':=mi_pushB I hp fun z hz=>le_trans (lt.le hw) (drop_ge sa hq z hz)
    by_cases d1:ib'+1=b.size
    · rw [if_pos (by simpa using d1)]
      exact wpS_pure ⟨rfl,.inl ⟨_,_,rfl,good_done I' (.inl d1)⟩⟩
    rw [if_neg (by simpa using d1)]
    by_cases d2:bc+1 ≥ mg
    · rw [if_pos d2]
      exact wpS_pure ⟨rfl,.inr ⟨_,_,_,_,_,rfl,I',g1,by omega,by omega⟩⟩
    · rw [if_neg d2]
      exact wpS_pure ⟨_,_,_,_,_,rfl,rfl,I',g1,by omega,by omega,by omega⟩
   | false =>
    rw [if_neg (by decide)]
    refine wpS_bind (wpS_elem hq ?_)
    try dsimp only
    have I':=mi_pushA I hq fun z hz=>le_trans (show Srt.le κ q p from hw) (drop_ge sb hp z hz)
    by_cases d1:ia'+1+1=a.size
    · rw [if_pos (by simpa using d1)]
      exact wpS_pure ⟨rfl,.inl ⟨_,_,rfl,good_last I' d1 hl⟩⟩
    rw [if_neg (by simpa using d1)]
    by_cases d2:ac+1 ≥ mg
    · rw [if_pos d2]
      exact wpS_pure ⟨rfl,.inr ⟨_,_,_,_,_,rfl,I',by omega,g2,by omega⟩⟩
    · rw [if_neg d2]
      exact wpS_pure ⟨_,_,_,_,_,rfl,rfl,I',by omega,g2,by omega,by omega⟩
  case post1 =>
   rintro c st' ⟨rfl,⟨r,z,rfl,hr⟩ | ⟨out1,ia1,ib1,ac1,bc1,rfl,I1,h11,h12,h13⟩⟩
   · exact wpS_pure ⟨r,_,g,rfl,rfl,hr⟩
   try dsimp only
   refine wpS_bind (wpS_lift (wpAny_rule ⟨rfl,?_⟩))
   refine wpS_bind (wpS_mono (wpS_forRange
    (I:=fun x' c st'=>∃ out ia' ib' mg ac bc g,c=(none,out,ia',ib',mg,ac,bc)∧st'=setG st g∧MI κ a.toList b.toList out.toList ia' ib'∧ia'+1 < a.size∧ib' < b.size∧ia+ib < ia'+ib')
    (Q:=fun c st'=>∃ g,st'=setG st g∧((∃ r z,c=(some r,z)∧Good κ a b r)∨∃ out ia' ib' mg ac bc,c=(none,out,ia',ib',mg,ac,bc)∧MI κ a.toList b.toList out.toList ia' ib'∧ia'+1 < a.size∧ib' < b.size∧ia+ib < ia'+ib')) ?step2 ?fin2 ⟨out1,ia1,ib1,_,ac1,bc1,g,rfl,rfl,I1,h11,h12,h13⟩) ?post2)
   case fin2 =>
    rintro c st' ⟨out,ia',ib',mg,ac,bc,g,rfl,rfl,I,h1,h2,h3⟩
    exact ⟨g,rfl,.inr ⟨_,_,_,_,_,_,rfl,I,h1,h2,h3⟩⟩
   case post2 =>
    rintro c st' ⟨g,rfl,⟨r,z,rfl,hr⟩ | ⟨out2,ia2,ib2,mg2,ac2,bc2,rfl,I2,h21,h22,h23⟩⟩
    · exact wpS_pure ⟨r,_,g,rfl,rfl,hr⟩
    try dsimp only
    exact wpS_bind (wpS_setMG (wpS_pure ⟨_,_,_,_,_,rfl,rfl,I2,h21,h22,by omega⟩))
   case step2 =>
    rintro x' c st' _ hx' ⟨out,ia',ib',mg,ac,bc,g,rfl,rfl,I,g1,g2,g3⟩
    try dsimp only
    revert mg
    apply all_one
    · intro mg z1 z2
      by_cases hm:¬ mg > 1
      · rw [if_neg hm]; exact z1
      · rw [if_pos (Decidable.not_not.mp hm)]; exact z2
    intro mg'
    refine wpS_bind (wpS_setMG ?_)
    obtain ⟨p,hp,Hp⟩:=atB ib' g2
    refine wpS_bind (wpS_elem hp (wpS_bind (wpS_gallopL hO (hkg _) Hp (by omega) drop_all (fun z hz=>ha z (List.mem_of_mem_drop hz)) (sa.drop) (by omega) fun k hkn k1 k2=>?_)))
    try dsimp only
    have I':=mi_catA I hkn fun z hz z' hz'=>le_trans (bey_le (k1 z hz)) (drop_ge sb hp z' hz')
    have k2':∀ q∈a.toList.drop (ia'+k),lt κ p q:=fun q hq=>bey_gt (k2 q (by rw [List.drop_drop]; exact hq))
    apply by_key (Inv:=fun (o:Array Keyed) (i:Nat)=>MI κ a.toList b.toList o.toList i ib'∧(∀ q∈a.toList.drop i,lt κ p q)∧i+1 < a.size∧ia+ib < i+ib')
    · intro z
      by_cases hk0:¬ k > 0
      · rw [if_neg hk0]
        have hk0:k=0:=by omega
        rw [hk0,Nat.add_zero] at k2'
        have g4:=g1
        have g5:=g3
        replace I':=I
        generalize out=outA at I' ⊢
        generalize ia'=iaA at I' k2' g4 g5 ⊢
        exact z outA iaA ⟨I',k2',g4,g5⟩
      · have hk0:=Decidable.not_not.mp hk0
        rw [if_pos hk0]
        by_cases d1:ia'+k+1=a.size
        · rw [if_pos (by simpa using d1)]
          exact wpS_pure ⟨_,rfl,.inl ⟨_,_,rfl,good_last I' d1 hl⟩⟩
        rw [if_neg (by simpa using d1)]
        by_cases d2:ia'+k=a.size
        · rw [if_pos (by simpa using d2)]
          exact wpS_pure ⟨_,rfl,.inl ⟨_,_,rfl,good_done I' (.inr d2)⟩⟩
        rw [if_neg (by simpa using d2)]
        have g4:ia'+k+1 < a.size:=by omega
        have g5:ia+ib < ia'+k+ib':=by omega
        clear d1 d2
        generalize out++a.extract ia' (ia'+k)=outA at I' ⊢
        generalize ia'+k=iaA at I' k2' g4 g5 ⊢
        exact z outA iaA ⟨I',k2',g4,g5⟩
    rintro outA iaA ⟨I',k2',g4,g5⟩
    refine wpS_bind (wpS_elem hp ?_)
    try dsimp only
    have I2:=mi_pushB I' hp fun q hq=>(k2' q hq).le
    by_cases d3:ib'+1=b.size
    · rw [if_pos (by simpa using d3)]
      exact wpS_pure ⟨_,rfl,.inl ⟨_,_,rfl,good_done I2 (.inl d3)⟩⟩
    rw [if_neg (by simpa using d3)]
    obtain ⟨q,hq,Hq⟩:=atA iaA (by omega)
    refine wpS_bind (wpS_elem hq (wpS_bind (wpS_gallopL hO (hkg _) Hq (by omega) drop_all (fun z hz=>hb z (List.mem_of_mem_drop hz)) (sb.drop) (by omega) fun k' hkn' k3 k4=>?_)))
    try dsimp only
    have I3:=mi_catB I2 hkn' fun z hz z' hz'=>le_trans (bey_lt (k3 z hz)).le (drop_ge sa hq z' hz')
    have k4':∀ z∈b.toList.drop (ib'+1+k'),Srt.le κ q z:=fun z hz=>bey_ge (k4 z (by rw [List.drop_drop]; exact hz))
    apply by_key (Inv:=fun (o:Array Keyed) (j:Nat)=>MI κ a.toList b.toList o.toList iaA j∧(∀ z∈b.toList.drop j,Srt.le κ q z)∧j < b.size∧ia+ib < iaA+j)
    · intro z
      by_cases hk1:¬ k' > 0
      · rw [if_neg hk1]
        have hk1:k'=0:=by omega
        rw [hk1,Nat.add_zero] at k4'
        have g6:ib'+1 < b.size:=by omega
        have g7:ia+ib < iaA+(ib'+1):=by omega
        replace I3:=I2
        generalize outA.push p=outB at I3 ⊢
        generalize ib'+1=ibB at I3 k4' g6 g7 ⊢
        exact z outB ibB ⟨I3,k4',g6,g7⟩
      · have hk1:=Decidable.not_not.mp hk1
        rw [if_pos hk1]
        by_cases d4:ib'+1+k'=b.size
        · rw [if_pos (by simpa using d4)]
          exact wpS_pure ⟨_,rfl,.inl ⟨_,_,rfl,good_done I3 (.inl d4)⟩⟩
        rw [if_neg (by simpa using d4)]
        have g6:ib'+1+k' < b.size:=by omega
        have g7:ia+ib < iaA+(ib'+1+k'):=by omega
        clear d4
        generalize outA.push p++b.extract (ib'+1) (ib'+1+k')=outB at I3 ⊢
        generalize ib'+1+k'=ibB at I3 k4' g6 g7 ⊢
        exact z outB ibB ⟨I3,k4',g6,g7⟩
    rintro outB ibB ⟨I3,k4',g6,g7⟩
    refine wpS_bind (wpS_elem hq ?_)
    try dsimp only
    have I4:=mi_pushA I3 hq k4'
    by_cases d5:iaA+1+1=a.size
    · rw [if_pos (by simpa using d5)]
      exact wpS_pure ⟨_,rfl,.inl ⟨_,_,rfl,good_last I4 d5 hl⟩⟩
    rw [if_neg (by simpa using d5)]
    split
    · exact wpS_pure ⟨_,rfl,.inr ⟨_,_,_,_,_,_,rfl,I4,by omega,g6,by omega⟩⟩
    · exact wpS_pure ⟨_,_,_,_,_,_,_,rfl,rfl,I4,by omega,g6,by omega⟩
end
end Srt
namespace Srt
open PySem PyProof.Rows
section
variable {κ:KeyKind}
structure MH (κ:KeyKind) (a b out:List Keyed) (na nb:Nat):Prop where
 la:na≤a.length
 lb:nb≤b.length
 pm:out.reverse.Perm (a.drop na++b.drop nb)
 sa:(a.take na++out.reverse).Pairwise (Srt.le κ)
 sb:(b.take nb++out.reverse).Pairwise (Srt.le κ)
variable {a b out:List Keyed} {na nb:Nat}
theorem cut_end {a r X:List Keyed} {n:Nat} (hn:n≤a.length) (h:a.take n=r++X):a.take r.length=r∧a.drop r.length=X++a.drop n∧r.length≤n:=by
 have hl:=congrArg List.length h
 rw [List.length_take,List.length_append] at hl
 have e:a=r++(X++a.drop n):=by
  rw [← List.append_assoc,← h,List.take_append_drop]
 refine ⟨?_,?_,by omega⟩
 · have:=List.take_left (l₁:=r) (l₂:=X++a.drop n)
   rw [← e] at this; exact this
 · have:=List.drop_left (l₁:=r) (l₂:=X++a.drop n)
   rw [← e] at this; exact this
theorem pw_mid {l X o m:List Keyed} (h1:(l++X++o).Pairwise (Srt.le κ)) (h2:(m++o).Pairwise (Srt.le κ)) (h3:∀ p∈m,∀ q∈X,Srt.le κ p q):(m++(X++o)).Pairwise (Srt.le κ):=by
 rw [List.append_assoc,List.pairwise_append] at h1
 rw [List.pairwise_append] at h2 ⊢
 refine ⟨h2.1,h1.2.1,fun p hp q hq=>?_⟩
 rcases List.mem_append.mp hq with hq | hq
 · exact h3 p hp q hq
 · exact h2.2.2 p hp q hq
theorem MH.takeA {X r:List Keyed} (I:MH κ a b out na nb) (h:a.take na=r++X) (hl:∀ p∈b.take nb,∀ q∈X,Srt.le κ p q):MH κ a b (out++X.reverse) r.length nb:=by
 obtain ⟨e1,e2,e3⟩:=cut_end I.la h
 have hla:=I.la
 have eo:(out++X.reverse).reverse=X++out.reverse:=by rw [List.reverse_append,List.reverse_reverse]
 refine ⟨by omega,I.lb,?_,?_,?_⟩
 · rw [eo,e2,List.append_assoc]
   exact I.pm.append_left X
 · rw [eo,e1,← List.append_assoc,← h]
   exact I.sa
 · rw [eo]
   have s1:=I.sa
   rw [h] at s1
   exact pw_mid s1 I.sb hl
theorem MH.takeB {X r:List Keyed} (I:MH κ a b out na nb) (h:b.take nb=r++X) (hl:∀ p∈a.take na,∀ q∈X,Srt.le κ p q):MH κ a b (out++X.reverse) na r.length:=by
 obtain ⟨e1,e2,e3⟩:=cut_end I.lb h
 have hlb:=I.lb
 have eo:(out++X.reverse).reverse=X++out.reverse:=by rw [List.reverse_append,List.reverse_reverse]
 refine ⟨I.la,by omega,?_,?_,?_⟩
 · rw [eo,e2]
   refine (I.pm.append_left X).trans ?_
   rw [← List.append_assoc,← List.append_assoc]
   exact List.Perm.append_right _ List.perm_append_comm
 · rw [eo]
   have s1:=I.sb
   rw [h] at s1
   exact pw_mid s1 I.sa hl
 · rw [eo,e1,← List.append_assoc,← h]
   exact I.sb
theorem perm4 {x y u v:List Keyed}:(x++y++(u++v)).Perm ((x++u)++(y++v)):=by
 rw [List.append_assoc,List.append_assoc]
 refine List.Perm.append_left _ ?_
 rw [← List.append_assoc,← List.append_assoc]
 exact List.Perm.append_right _ List.perm_append_comm
theorem MH.pm2 (I:MH κ a b out na nb):(a.take na++b.take nb++out.reverse).Perm (a++b):=by
 refine (I.pm.append_left _).trans (perm4.trans ?_)
 rw [List.take_append_drop,List.take_append_drop]
theorem MH.doneA (I:MH κ a b out na nb) (h:na=0):(a.take na++b.take nb++out.reverse).Perm (a++b)∧(a.take na++b.take nb++out.reverse).Pairwise (Srt.le κ):=by
 refine ⟨I.pm2,?_⟩
 subst h
 exact I.sb
theorem MH.doneB (I:MH κ a b out na nb) (h:nb=0):(a.take na++b.take nb++out.reverse).Perm (a++b)∧(a.take na++b.take nb++out.reverse).Pairwise (Srt.le κ):=by
 refine ⟨I.pm2,?_⟩
 subst h
 rw [List.take_zero,List.append_nil]
 exact I.sa
theorem MH.firstB (I:MH κ a b out na nb) (h:nb=1) (hl:∀ p,b[0]?=some p→∀ q∈a,Srt.le κ p q):(b.take nb++a.take na++out.reverse).Perm (a++b)∧(b.take nb++a.take na++out.reverse).Pairwise (Srt.le κ):=by
 refine ⟨(List.Perm.append_right _ List.perm_append_comm).trans I.pm2,?_⟩
 subst h
 have s1:=I.sa
 have s2:=I.sb
 rw [List.pairwise_append] at s2
 rw [List.append_assoc,List.pairwise_append]
 refine ⟨s2.1,s1,fun p hp q hq=>?_⟩
 rcases List.mem_append.mp hq with hq | hq
 · have hp0:b[0]?=some p:=by
    cases b with
    | nil=>simp at hp
    | cons z t=>have:p=z:=by simpa using hp
                rw [this]; rfl
   exact hl p hp0 q (List.mem_of_mem_take hq)
 · exact s2.2.2 p hp q hq
end
section
variable {prog:Program} {w:World} {A:Around} {E:Value→Shared→Prop} {s:Shared} {κ:KeyKind}
theorem tl_ext0 {a:Array Keyed} {n:Nat}:(a.extract 0 n).toList=a.toList.take n:=by
 rw [Array.toList_extract,List.extract_eq_take_drop,List.drop_zero,Nat.sub_zero]
theorem tl_ext3 {a:Array Keyed} {i n:Nat}:(a.extract i n).toList=(a.toList.take n).drop i:=by
 rw [Array.toList_extract,List.extract_eq_take_drop,List.drop_take]
theorem hi_done {a b out:Array Keyed} {na nb:Nat} (I:MH κ a.toList b.toList out.toList na nb) (h:na=0∨nb=0):Good κ a b (a.extract 0 na++b.extract 0 nb++out.reverse):=by
 unfold Good
 rw [Array.toList_append,Array.toList_append,tl_ext0,tl_ext0,Array.toList_reverse]
 rcases h with h | h
 · exact I.doneA h
 · exact I.doneB h
theorem hi_first {a b out:Array Keyed} {na nb:Nat} (I:MH κ a.toList b.toList out.toList na nb) (h:nb=1) (hl:∀ p,b[0]?=some p→∀ q∈a.toList,Srt.le κ p q):Good κ a b (b.extract 0 nb++a.extract 0 na++out.reverse):=by
 unfold Good
 rw [Array.toList_append,Array.toList_append,tl_ext0,tl_ext0,Array.toList_reverse]
 exact I.firstB h fun p hp=>hl p (by rw [← Array.getElem?_toList]; exact hp)
theorem take_last {a:Array Keyed} {n:Nat} {q:Keyed} (hn:1≤n) (hq:a[n - 1]?=some q):a.toList.take n=a.toList.take (n - 1)++[q]:=by
 obtain ⟨m,rfl⟩:∃ m,n=m+1:=⟨n - 1,by omega⟩
 rw [Nat.add_sub_cancel] at hq ⊢
 obtain ⟨h1,h2⟩:=Array.getElem?_eq_some_iff.mp hq
 rw [List.take_succ_eq_append_getElem (by rw [Array.length_toList]; exact h1),Array.getElem_toList,h2]
theorem mh_pushA {a b out:Array Keyed} {na nb:Nat} {q:Keyed} (I:MH κ a.toList b.toList out.toList na nb) (hn:1≤na) (hq:a[na - 1]?=some q) (hl:∀ p∈b.toList.take nb,Srt.le κ p q):MH κ a.toList b.toList (out.push q).toList (na - 1) nb:=by
 have h:=I.takeA (take_last hn hq) fun p hp z hz=>by
  have:z=q:=by simpa using hz
  subst this; exact hl p hp
 have hla:=I.la
 rw [List.length_take,Nat.min_eq_left (by omega)] at h
 rw [Array.toList_push]; exact h
theorem mh_pushB {a b out:Array Keyed} {na nb:Nat} {q:Keyed} (I:MH κ a.toList b.toList out.toList na nb) (hn:1≤nb) (hq:b[nb - 1]?=some q) (hl:∀ p∈a.toList.take na,Srt.le κ p q):MH κ a.toList b.toList (out.push q).toList na (nb - 1):=by
 have h:=I.takeB (take_last hn hq) fun p hp z hz=>by
  have:z=q:=by simpa using hz
  subst this; exact hl p hp
 have hlb:=I.lb
 rw [List.length_take,Nat.min_eq_left (by omega)] at h
 rw [Array.toList_push]; exact h
theorem cut_at {L:List Keyed} {n k:Nat} (hn:n≤L.length) (hk:k≤n):L.take n=L.take k++(L.take n).drop k∧(L.take k).length=k:=by
 refine ⟨?_,by rw [List.length_take]; omega⟩
 have h:=List.take_append_drop k (L.take n)
 rw [List.take_take,Nat.min_eq_left hk] at h
 exact h.symm
theorem mh_catA {a b out:Array Keyed} {na nb k:Nat} (I:MH κ a.toList b.toList out.toList na nb) (hk:k≤na) (hl:∀ p∈b.toList.take nb,∀ q∈(a.toList.take na).drop k,Srt.le κ p q):MH κ a.toList b.toList (out++(a.extract k na).reverse).toList k nb:=by
 obtain ⟨e1,e2⟩:=cut_at I.la hk
 have h:=I.takeA e1 hl
 rw [e2] at h
 rw [Array.toList_append,Array.toList_reverse,tl_ext3]; exact h
theorem mh_catB {a b out:Array Keyed} {na nb k:Nat} (I:MH κ a.toList b.toList out.toList na nb) (hk:k≤nb) (hl:∀ p∈a.toList.take na,∀ q∈(b.toList.take nb).drop k,Srt.le κ p q):MH κ a.toList b.toList (out++(b.extract k nb).reverse).toList na k:=by
 obtain ⟨e1,e2⟩:=cut_at I.lb hk
 have h:=I.takeB e1 hl
 rw [e2] at h
 rw [Array.toList_append,Array.toList_reverse,tl_ext3]; exact h
theorem take_le {a:Array Keyed} (sa:a.toList.Pairwise (Srt.le κ)) {n:Nat} {q:Keyed} (hn:1≤n) (hq:a[n - 1]?=some q):∀ p∈a.toList.take n,Srt.le κ p q:=fun p hp=>by
 obtain ⟨j,hj,rfl⟩:=List.getElem_of_mem hp
 obtain ⟨h1,rfl⟩:=Array.getElem?_eq_some_iff.mp hq
 rw [List.getElem_take,← Array.getElem_toList]
 rw [List.length_take] at hj
 exact pw_idx sa (by omega) (by omega)
theorem wpS_mergeHi (hO:OneLtAt κ prog w A s) {a b:Array Keyed} {st:SortSt} {Q:Array Keyed→SortSt→Prop} (hk:kindOf st=oneType') (ha:∀ p∈a.toList,Has κ p) (hb:∀ p∈b.toList,Has κ p)
 (sa:a.toList.Pairwise (Srt.le κ)) (sb:b.toList.Pairwise (Srt.le κ)) (hb0:∀ p,b[0]?=some p→∀ q∈a.toList,Srt.le κ p q) (hl:∀ p∈b.toList,∀ q,a[a.size - 1]?=some q→Srt.le κ p q) (pa:1≤a.size) (pb:1≤b.size)
 (h:∀ r g,Good κ a b r→Q r (setG st g)):wpS (model prog w) A E s (mergeHi' a b) Q st:=by
 have atA:∀ i,i < a.size→∃ p,a[i]?=some p∧Has κ p:=fun i hi=>⟨a[i],getElem?_pos a i hi,ha _ (mem_at (getElem?_pos a i hi))⟩
 have atB:∀ i,i < b.size→∃ p,b[i]?=some p∧Has κ p:=fun i hi=>⟨b[i],getElem?_pos b i hi,hb _ (mem_at (getElem?_pos b i hi))⟩
 have hst:st=setG st (gallopOf st):=rfl
 have hkg:∀ g,kindOf (setG st g)=oneType':=fun g=>hk
 obtain ⟨a0,e0,_⟩:=atA (a.size - 1) (by omega)
 have I0:MH κ a.toList b.toList (#[a0]:Array Keyed).toList (a.size - 1) b.size:=by
  have I:MH κ a.toList b.toList (#[]:Array Keyed).toList a.size b.size:=by
   refine ⟨Nat.le_of_eq Array.length_toList.symm,Nat.le_of_eq Array.length_toList.symm,?_,?_,?_⟩
   · rw [List.drop_of_length_le (Nat.le_of_eq Array.length_toList),List.drop_of_length_le (Nat.le_of_eq Array.length_toList)]; exact .refl _
   · rw [List.take_of_length_le (Nat.le_of_eq Array.length_toList)]
     show (a.toList++[]).Pairwise _
     rw [List.append_nil]; exact sa
   · rw [List.take_of_length_le (Nat.le_of_eq Array.length_toList)]
     show (b.toList++[]).Pairwise _
     rw [List.append_nil]; exact sb
  exact mh_pushA I pa e0 fun p hp=>hl p (List.mem_of_mem_take hp) a0 e0
 unfold mergeHi'
 refine wpS_bind (wpS_lift (wpAny_rule ⟨rfl,?_⟩))
 refine wpS_bind (wpS_elem e0 ?_)
 try dsimp only
 by_cases c1:a.size - 1=0
 · rw [if_pos (by simpa using c1)]
   exact wpS_pure (h _ (gallopOf st) (hi_done I0 (.inl c1)))
 rw [if_neg (by simpa using c1)]
 by_cases c2:b.size=1
 · rw [if_pos (by simpa using c2)]
   exact wpS_pure (h _ (gallopOf st) (hi_first I0 c2 hb0))
 rw [if_neg (by simpa using c2)]
 refine wpS_bind (wpS_get ?_)
 refine wpS_bind (wpS_mono (wpS_forRange
  (I:=fun x c st'=>∃ na nb out mg g,c=(none,na,nb,out,mg)∧st'=setG st g∧MH κ a.toList b.toList out.toList na nb∧na≤a.size∧nb≤b.size∧1≤na∧2≤nb∧x+na+nb < a.size+b.size)
  (Q:=fun c st'=>∃ r z g,c=(some r,z)∧st'=setG st g∧Good κ a b r) ?step ?fin ⟨_,_,_,_,_,rfl,hst,I0,by omega,by omega,by omega,by omega,by omega⟩) ?post)
 case post =>
  rintro c st' ⟨r,z,g,rfl,rfl,hr⟩
  exact wpS_pure (h r g hr)
 case fin =>
  rintro c st' ⟨na,nb,out,mg,g,rfl,rfl,I,l1,l2,h1,h2,h3⟩
  omega
 case step =>
  rintro x c st' _ hx ⟨na,nb,out,mg,g,rfl,rfl,I,l1,l2,h1,h2,h3⟩
  try dsimp only
  refine wpS_bind (wpS_mono (wpS_forRange
   (I:=fun x' c st'=>∃ na' nb' out ac bc,c=(none,na',nb',out,ac,bc)∧st'=setG st g∧MH κ a.toList b.toList out.toList na' nb'∧na'≤a.size∧nb'≤b.size∧1≤na'∧2≤nb'∧na'+nb'≤na+nb∧(0 < x'→na'+nb' < na+nb))
   (Q:=fun c st'=>st'=setG st g∧((∃ r z,c=(some r,z)∧Good κ a b r)∨∃ na' nb' out ac bc,c=(none,na',nb',out,ac,bc)∧MH κ a.toList b.toList out.toList na' nb'∧na'≤a.size∧nb'≤b.size∧1≤na'∧2≤nb'∧na'+nb' < na+nb)) ?step1 ?fin1 ⟨na,nb,out,0,0,rfl,rfl,I,l1,l2,h1,h2,Nat.le_refl _,by omega⟩) ?post1)
  case fin1 =>
   rintro c st' ⟨na',nb',out,ac,bc,rfl,rfl,I,l1,l2,h1,h2,h3,h4⟩
   exact ⟨rfl,.inr ⟨_,_,_,_,_,rfl,I,l1,l2,h1,h2,h4 (by omega)⟩⟩
  case step1 =>
   rintro x' c st' _ hx' ⟨na',nb',out,ac,bc,rfl,rfl,I,l1,l2,g1,g2,g3,g4⟩
   try dsimp only
   obtain ⟨p,hp,Hp⟩:=atB (nb' - 1) (by omega)
   obtain ⟨q,hq,Hq⟩:=atA (na' - 1) (by omega)
   refine wpS_bind (wpS_elem hp (wpS_bind (wpS_elem hq (wpS_bind (wpS_lt hO (hkg g) Hp Hq ?_)))))
   try dsimp only
   cases hw:κ.blt (kp κ p) (kp κ q) with
   | true =>
    rw [if_pos rfl]
    refine wpS_bind (wpS_elem hq ?_)
    try dsimp only
    have I':=mh_pushA I g1 hq fun z hz=>le_trans (take_le sb (by omega) hp z hz) (lt.le hw)
    by_cases d1:na' - 1=0
    · rw [if_pos (by simpa using d1)]
      exact wpS_pure ⟨rfl,.inl ⟨_,_,rfl,hi_done I' (.inl d1)⟩⟩
    rw [if_neg (by simpa using d1)]
    by_cases d2:ac+1 ≥ mg
    · rw [if_pos d2]
      exact wpS_pure ⟨rfl,.inr ⟨_,_,_,_,_,rfl,I',by omega,by omega,by omega,by omega,by omega⟩⟩
    · rw [if_neg d2]
      exact wpS_pure ⟨_,_,_,_,_,rfl,rfl,I',by omega,by omega,by omega,by omega,by omega,by omega⟩
   | false =>
    rw [if_neg (by decide)]
    refine wpS_bind (wpS_elem hp ?_)
    try dsimp only
    have I':=mh_pushB I (by omega) hp fun z hz=>le_trans (take_le sa (by omega) hq z hz) (show Srt.le κ q p from hw)
    by_cases d1:nb' - 1=1
    · rw [if_pos (by simpa using d1)]
      exact wpS_pure ⟨rfl,.inl ⟨_,_,rfl,hi_first I' d1 hb0⟩⟩
    rw [if_neg (by simpa using d1)]
    by_cases d2:bc+1 ≥ mg
    · rw [if_pos d2]
      exact wpS_pure ⟨rfl,.inr ⟨_,_,_,_,_,rfl,I',by omega,by omega,by omega,by omega,by omega⟩⟩
    · rw [if_neg d2]
      exact wpS_pure ⟨_,_,_,_,_,rfl,rfl,I',by omega,by omega,by omega,by omega,by omega,by omega⟩
  case post1 =>
   rintro c st' ⟨rfl,⟨r,z,rfl,hr⟩ | ⟨na1,nb1,out1,ac1,bc1,rfl,I1,l11,l12,h11,h12,h13⟩⟩
   · exact wpS_pure ⟨r,_,g,rfl,rfl,hr⟩
   try dsimp only
   refine wpS_bind (wpS_lift (wpAny_rule ⟨rfl,?_⟩))
   refine wpS_bind (wpS_mono (wpS_forRange
    (I:=fun x' c st'=>∃ na' nb' out mg ac bc g,c=(none,na',nb',out,mg,ac,bc)∧st'=setG st g∧MH κ a.toList b.toList out.toList na' nb'∧na'≤a.size∧nb'≤b.size∧1≤na'∧2≤nb'∧na'+nb' < na+nb)
    (Q:=fun c st'=>∃ g,st'=setG st g∧((∃ r z,c=(some r,z)∧Good κ a b r)∨∃ na' nb' out mg ac bc,c=(none,na',nb',out,mg,ac,bc)∧MH κ a.toList b.toList out.toList na' nb'∧na'≤a.size∧nb'≤b.size∧1≤na'∧2≤nb'∧na'+nb' < na+nb)) ?step2 ?fin2 ⟨na1,nb1,out1,_,ac1,bc1,g,rfl,rfl,I1,l11,l12,h11,h12,h13⟩) ?post2)
   case fin2 =>
    rintro c st' ⟨na',nb',out,mg,ac,bc,g,rfl,rfl,I,l1,l2,h1,h2,h3⟩
    exact ⟨g,rfl,.inr ⟨_,_,_,_,_,_,rfl,I,l1,l2,h1,h2,h3⟩⟩
   case post2 =>
    rintro c st' ⟨g,rfl,⟨r,z,rfl,hr⟩ | ⟨na2,nb2,out2,mg2,ac2,bc2,rfl,I2,l21,l22,h21,h22,h23⟩⟩
    · exact wpS_pure ⟨r,_,g,rfl,rfl,hr⟩
    try dsimp only
    exact wpS_bind (wpS_setMG (wpS_pure ⟨_,_,_,_,_,rfl,rfl,I2,l21,l22,h21,h22,by omega⟩))
   case step2 =>
    rintro x' c st' _ hx' ⟨na',nb',out,mg,ac,bc,g,rfl,rfl,I,l1,l2,g1,g2,g3⟩
    try dsimp only
    revert mg
    apply all_one
    · intro mg z1 z2
      by_cases hm:¬ mg > 1
      · rw [if_neg hm]; exact z1
      · rw [if_pos (Decidable.not_not.mp hm)]; exact z2
    intro mg'
    refine wpS_bind (wpS_setMG ?_)
    obtain ⟨p,hp,Hp⟩:=atB (nb' - 1) (by omega)
    refine wpS_bind (wpS_elem hp (wpS_bind (wpS_gallopL hO (hkg _) Hp (by omega) (by rw [List.drop_zero]) (fun z hz=>ha z (List.mem_of_mem_take hz)) (sa.sublist (List.take_sublist _ _)) (by omega) fun k hkn k1 k2=>?_)))
    try dsimp only
    have I':=mh_catA I hkn fun z hz z' hz'=>le_trans (take_le sb (by omega) hp z hz) (bey_gt (k2 z' hz')).le
    have k1':∀ q∈a.toList.take k,Srt.le κ q p:=fun q hq=>bey_le (k1 q (by rw [List.take_take,Nat.min_eq_left hkn]; exact hq))
    by_cases hk0:na' - k > 0
    case' pos =>
     rw [if_pos hk0]
     by_cases d1:k=0
     · rw [if_pos (by simpa using d1)]
       exact wpS_pure ⟨_,rfl,.inl ⟨_,_,rfl,hi_done I' (.inl d1)⟩⟩
     rw [if_neg (by simpa using d1)]
     have g4:1≤k:=by omega
     have g5:k+nb' < na+nb:=by omega
     have l3:k≤a.size:=by omega
     clear d1
     generalize out++(a.extract k na').reverse=outA at I' ⊢
     obtain ⟨naA,hna⟩:∃ n,k=n:=⟨k,rfl⟩
     rw [hna] at I' k1' g4 g5 l3
    case' neg =>
     rw [if_neg hk0]
     have hk0:k=na':=by omega
     rw [hk0] at k1'
     have g4:=g1
     have g5:=g3
     have l3:=l1
     replace I':=I
     generalize out=outA at I' ⊢
     obtain ⟨naA,hna⟩:∃ n,na'=n:=⟨na',rfl⟩
     rw [hna] at I' k1' g4 g5 l3
    all_goals
     refine wpS_bind (wpS_elem hp ?_)
     try dsimp only
     have I2:=mh_pushB I' (by omega) hp k1'
     by_cases d3:nb' - 1=1
     · rw [if_pos (by simpa using d3)]
       rw [hna]
       exact wpS_pure ⟨_,rfl,.inl ⟨_,_,rfl,hi_first I2 d3 hb0⟩⟩
     rw [if_neg (by simpa using d3)]
     obtain ⟨q,hq,Hq⟩:=atA (naA - 1) (by omega)
     refine wpS_bind (wpS_elem (hna ▸ hq) (wpS_bind (wpS_gallopL hO (hkg _) Hq (by omega) (by rw [List.drop_zero]) (fun z hz=>hb z (List.mem_of_mem_take hz)) (sb.sublist (List.take_sublist _ _)) (by omega) fun k' hkn' k3 k4=>?_)))
     try dsimp only
     have I3:=mh_catB I2 hkn' fun z hz z' hz'=>le_trans (take_le sa g4 hq z hz) (bey_ge (k4 z' hz'))
     have k3':∀ z∈b.toList.take k',Srt.le κ z q:=fun z hz=>(bey_lt (k3 z (by rw [List.take_take,Nat.min_eq_left hkn']; exact hz))).le
     by_cases hk1:nb' - 1 - k' > 0
     case' pos =>
      rw [if_pos hk1]
      by_cases d4:k'=1
      · rw [if_pos (by simpa using d4)]
        rw [hna]
        exact wpS_pure ⟨_,rfl,.inl ⟨_,_,rfl,hi_first I3 d4 hb0⟩⟩
      rw [if_neg (by simpa using d4)]
      by_cases d6:k'=0
      · rw [if_pos (by simpa using d6)]
        rw [hna]
        exact wpS_pure ⟨_,rfl,.inl ⟨_,_,rfl,hi_done I3 (.inr d6)⟩⟩
      rw [if_neg (by simpa using d6)]
      have g6:2≤k':=by omega
      have g7:naA+k' < na+nb:=by omega
      have l4:k'≤b.size:=by omega
      clear d4 d6
      generalize outA.push p++(b.extract k' (nb' - 1)).reverse=outB at I3 ⊢
      obtain ⟨nbB,hnb⟩:∃ n,k'=n:=⟨k',rfl⟩
      rw [hnb] at I3 k3' g6 g7 l4
     case' neg =>
      rw [if_neg hk1]
      have hk1:k'=nb' - 1:=by omega
      rw [hk1] at k3'
      have g6:2≤nb' - 1:=by omega
      have g7:naA+(nb' - 1) < na+nb:=by omega
      have l4:nb' - 1≤b.size:=by omega
      replace I3:=I2
      generalize outA.push p=outB at I3 ⊢
      obtain ⟨nbB,hnb⟩:∃ n,nb' - 1=n:=⟨_,rfl⟩
      rw [hnb] at I3 k3' g6 g7 l4
     all_goals
      refine wpS_bind (wpS_elem (hna ▸ hq) ?_)
      try dsimp only
      have I4:=mh_pushA I3 g4 hq k3'
      by_cases d5:naA - 1=0
      · rw [if_pos (by rw [hna]; simpa using d5)]
        rw [hna,hnb]
        exact wpS_pure ⟨_,rfl,.inl ⟨_,_,rfl,hi_done I4 (.inl d5)⟩⟩
      rw [if_neg (by rw [hna]; simpa using d5)]
      rw [hna,hnb]
      split
      · exact wpS_pure ⟨_,rfl,.inr ⟨_,_,_,_,_,_,rfl,I4,by omega,by omega,by omega,by omega,by omega⟩⟩
      · exact wpS_pure ⟨_,_,_,_,_,_,_,rfl,rfl,I4,by omega,by omega,by omega,by omega,by omega⟩
end
end Srt
namespace Srt
open PySem PyProof.Rows
section
variable {κ:KeyKind}
abbrev Run:=Nat × Nat × Nat
def Runs (κ:KeyKind):List Keyed→List Run→Nat→Prop
 | l,[],_=>l=[]
 | l,(s,n,_) :: r,lo=>s=lo∧1≤n∧n≤l.length∧(l.take n).Pairwise (Srt.le κ)∧Runs κ (l.drop n) r (lo+n)
theorem Runs.add {X:List Keyed} {n p:Nat} (hn:1≤n) (hX:X.length=n) (hs:X.Pairwise (Srt.le κ)):∀ {r:List Run} {l:List Keyed} {lo:Nat},Runs κ l r lo→Runs κ (l++X) (r++[(lo+l.length,n,p)]) lo
 | [],l,lo,h=>by
  have h:l=[]:=h
  subst h
  refine ⟨rfl,hn,?_,?_,?_⟩
  · rw [List.nil_append]; omega
  · rw [List.nil_append,List.take_of_length_le (by omega)]; exact hs
  · show List.drop n ([]++X)=[]
    rw [List.nil_append,List.drop_of_length_le (by omega)]
 | (s,m,q) :: r,l,lo,⟨h1,h2,h3,h4,h5⟩=>by
  have ih:=Runs.add hn hX hs (p:=p) h5
  refine ⟨h1,h2,by rw [List.length_append]; omega,?_,?_⟩
  · rw [List.take_append_of_le_length h3]; exact h4
  · show Runs κ ((l++X).drop m) (r++[(lo+l.length,n,p)]) (lo+m)
    rw [List.drop_append_of_le_length h3]
    rw [List.length_drop,show lo+m+(l.length - m)=lo+l.length by omega] at ih
    exact ih
theorem Runs.alike:∀ {r r':List Run} {l:List Keyed} {lo:Nat},r.map (fun x=>(x.1,x.2.1))=r'.map (fun x=>(x.1,x.2.1))→Runs κ l r lo→Runs κ l r' lo
 | [],[],l,lo,_,h=>h
 | [],_ :: _,l,lo,e,_=>by cases e
 | _ :: _,[],l,lo,e,_=>by cases e
 | (s,n,p) :: r,(s',n',p') :: r',l,lo,e,⟨h1,h2,h3,h4,h5⟩=>by
  rw [List.map_cons,List.map_cons] at e
  have e1:=(List.cons.inj e).1
  have e2:=(List.cons.inj e).2
  have e3:s=s':=congrArg Prod.fst e1
  have e4:n=n':=congrArg Prod.snd e1
  subst e3; subst e4
  exact ⟨h1,h2,h3,h4,Runs.alike e2 h5⟩
theorem Runs.few:∀ {r:List Run} {l:List Keyed} {lo:Nat},Runs κ l r lo→r.length≤l.length
 | [],l,lo,_=>Nat.zero_le _
 | (s,n,p) :: r,l,lo,⟨h1,h2,h3,h4,h5⟩=>by
  have:=Runs.few h5
  rw [List.length_drop] at this
  rw [List.length_cons]; omega
theorem Runs.one {r:List Run} {l:List Keyed} {lo:Nat} (h:Runs κ l r lo) (h1:r.length≤1):l.Pairwise (Srt.le κ):=by
 match r,h with
 | [],h=>have h:l=[]:=h
         subst h; exact List.Pairwise.nil
 | [(s,n,p)],⟨_,_,h3,h4,h5⟩ =>
  have h5:l.drop n=[]:=h5
  have e:=List.take_append_drop n l
  rw [h5,List.append_nil] at e
  rw [e] at h4; exact h4
 | _ :: _ :: _,_=>rw [List.length_cons,List.length_cons] at h1; omega
theorem Runs.two:∀ {r1 r2:List Run} {l:List Keyed} {lo sa na p sb nb q:Nat},Runs κ l (r1++(sa,na,p) :: (sb,nb,q) :: r2) lo →
 ∃ P X Y S,l=P++(X++(Y++S))∧sa=lo+P.length∧X.length=na∧Y.length=nb∧sb=sa+na∧1≤na∧1≤nb∧X.Pairwise (Srt.le κ)∧Y.Pairwise (Srt.le κ) ∧
  ∀ C,C.length=na+nb→C.Pairwise (Srt.le κ)→Runs κ (P++(C++S)) (r1++(sa,na+nb,p) :: r2) lo
 | [],r2,l,lo,sa,na,p,sb,nb,q,⟨h1,h2,h3,h4,h5,h6,h7,h8,h9⟩=>by
  subst h1
  rw [List.length_drop] at h7
  refine ⟨[],l.take na,(l.drop na).take nb,(l.drop na).drop nb,?_,rfl,?_,?_,h5,h2,h6,h4,h8,fun C hC hs=>⟨rfl,by omega,?_,?_,?_⟩⟩
  · rw [List.nil_append,List.take_append_drop,List.take_append_drop]
  · rw [List.length_take]; omega
  · rw [List.length_take,List.length_drop]; omega
  · rw [List.nil_append,List.length_append]; omega
  · rw [List.nil_append,← hC,List.take_left]; exact hs
  · rw [List.nil_append,← hC,List.drop_left,hC]
    rw [Nat.add_assoc] at h9
    exact h9
 | (s,m,t) :: r1,r2,l,lo,sa,na,p,sb,nb,q,⟨h1,h2,h3,h4,h5⟩=>by
  obtain ⟨P,X,Y,S,e,e1,e2,e3,e4,e5,e6,e7,e8,e9⟩:=Runs.two h5
  have hl:(l.take m).length=m:=by rw [List.length_take]; omega
  refine ⟨l.take m++P,X,Y,S,?_,?_,e2,e3,e4,e5,e6,e7,e8,fun C hC hs=>⟨h1,h2,?_,?_,?_⟩⟩
  · rw [List.append_assoc,← e,List.take_append_drop]
  · rw [List.length_append,hl,e1]; omega
  · rw [List.length_append,List.length_append,hl]; omega
  · rw [List.append_assoc]
    have h6:=List.take_left (l₁:=l.take m) (l₂:=P++(C++S))
    rw [hl] at h6; rw [h6]; exact h4
  · rw [List.append_assoc]
    have h6:=List.drop_left (l₁:=l.take m) (l₂:=P++(C++S))
    rw [hl] at h6; rw [h6]; exact e9 C hC hs
theorem put_back {f:Array Keyed→Keyed × Nat→Array Keyed} {o:Nat} (hf:∀ a p j,f a (p,j)=a.setIfInBounds (o+j) p):∀ (m:List Keyed) (j:Nat) (xs:Array Keyed) (P Z S:List Keyed),xs.toList=P++(Z++S)→P.length=o+j→Z.length=m.length→((m.zipIdx j).foldl f xs).toList=P++(m++S)
 | [],j,xs,P,Z,S,e,h1,h2=>by
  have:Z=[]:=List.eq_nil_of_length_eq_zero h2
  subst this; exact e
 | p :: m,j,xs,P,[],S,e,h1,h2=>by cases h2
 | p :: m,j,xs,P,z :: Z,S,e,h1,h2=>by
  rw [List.zipIdx_cons,List.foldl_cons,hf]
  have:=put_back hf m (j+1) (xs.setIfInBounds (o+j) p) (P++[p]) Z S ?_ (by rw [List.length_append,h1]; rfl) (by simpa using h2)
  · rw [this,List.append_assoc]; rfl
  · rw [Array.toList_setIfInBounds,e,← h1,List.set_append_right _ _ (Nat.le_refl _),Nat.sub_self,List.append_assoc]; rfl
end
section
variable {prog:Program} {w:World} {A:Around} {E:Value→Shared→Prop} {s:Shared} {κ:KeyKind} {a₀:Array Keyed}
structure SI (κ:KeyKind) (a₀:Array Keyed) (st:SortSt) (lo:Nat):Prop where
 pm:(arrOf st).toList.Perm a₀.toList
 kd:kindOf st=oneType'
 fl:failedOf st=none
 rs:Runs κ ((arrOf st).toList.take lo) (pendingOf st).toList 0
 lz:lo≤a₀.size
theorem SI.size {st:SortSt} {lo:Nat} (I:SI κ a₀ st lo):(arrOf st).size=a₀.size:=by
 rw [← Array.length_toList,I.pm.length_eq,Array.length_toList]
theorem sorted_join {X Y M:List Keyed} {k n:Nat} {b0:Keyed} {z:Keyed} (hX:X.Pairwise (Srt.le κ)) (hY:Y.Pairwise (Srt.le κ)) (hM:M.Perm (X.drop k++Y.take n)) (sM:M.Pairwise (Srt.le κ))
 (c1:∀ p∈X.take k,Srt.le κ p b0) (c2:∀ q∈X.drop k,Srt.le κ b0 q) (c3:∀ q∈Y,Srt.le κ b0 q) (c4:∀ q∈Y.drop n,Srt.le κ z q) (c5:∀ p∈X,Srt.le κ p z) (c6:∀ p∈Y.take n,Srt.le κ p z):(X.take k++(M++Y.drop n)).Pairwise (Srt.le κ):=by
 rw [List.pairwise_append,List.pairwise_append]
 refine ⟨hX.sublist (List.take_sublist _ _),⟨sM,hY.sublist (List.drop_sublist _ _),fun p hp q hq=>?_⟩,fun p hp q hq=>?_⟩
 · rcases List.mem_append.mp (hM.mem_iff.mp hp) with hp | hp
   · exact le_trans (c5 p (List.mem_of_mem_drop hp)) (c4 q hq)
   · exact le_trans (c6 p hp) (c4 q hq)
 · refine le_trans (c1 p hp) ?_
   rcases List.mem_append.mp hq with hq | hq
   · rcases List.mem_append.mp (hM.mem_iff.mp hq) with hq | hq
     · exact c2 q hq
     · exact c3 q (List.mem_of_mem_take hq)
   · exact c3 q (List.mem_of_mem_drop hq)
end
end Srt
namespace Srt
open PySem PyProof.Rows
section
variable {prog:Program} {w:World} {A:Around} {E:Value→Shared→Prop} {s:Shared} {κ:KeyKind} {a₀:Array Keyed}
theorem wpS_set {σ:Type} {M:Model} {x:σ} {Q:PUnit→σ→Prop} {st:σ} (h:Q ⟨⟩ x):wpS M A E s (set x:StateT σ Sem PUnit) Q st:=by
 unfold wpS; rw [StateT.run_set]; exact wpAny_pure ⟨rfl,h⟩
theorem ext_mid {xs:Array Keyed} {P X S:List Keyed} {i j:Nat} (h:xs.toList=P++(X++S)) (hi:P.length=i) (hj:i+X.length=j):(xs.extract i j).toList=X:=by
 rw [← hj,tl_ext2,h,← hi,List.drop_left,List.take_left]
theorem at_mid {xs:Array Keyed} {P X S:List Keyed} {i j:Nat} (h:xs.toList=P++(X++S)) (hi:P.length=i) (hj:j < X.length):xs[i+j]?=some X[j]:=by
 rw [← Array.getElem?_toList,h,← hi,List.getElem?_append_right (Nat.le_add_right _ _),Nat.add_sub_cancel_left,List.getElem?_append_left hj,List.getElem?_eq_getElem hj]
theorem last_mem {X:List Keyed} (h:X.length ≠ 0) {z:Keyed} (hz:X[X.length - 1]?=some z) (sX:X.Pairwise (Srt.le κ)):∀ p∈X,Srt.le κ p z:=fun p hp=>by
 obtain ⟨i,hi,rfl⟩:=List.getElem_of_mem hp
 obtain ⟨h1,rfl⟩:=List.getElem?_eq_some_iff.mp hz
 exact pw_idx sX (by omega) h1
theorem head_le {Y:List Keyed} {b0:Keyed} (h0:Y[0]?=some b0) (sY:Y.Pairwise (Srt.le κ)):∀ q∈Y,Srt.le κ b0 q:=fun q hq=>by
 obtain ⟨i,hi,rfl⟩:=List.getElem_of_mem hq
 obtain ⟨h1,rfl⟩:=List.getElem?_eq_some_iff.mp h0
 exact pw_idx sY (Nat.zero_le _) hi
theorem set_two {r1 r2:List Run} {x y v:Run} {i:Nat} (hi:r1.length=i):((r1++x :: y :: r2).set i v).eraseIdx (i+1)=r1++v :: r2:=by
 subst hi
 induction r1 with
 | nil=>rfl
 | cons a t ih =>
  show a :: ((t++x :: y :: r2).set t.length v).eraseIdx (t.length+1)=_
  rw [ih]; rfl
theorem split_two {r:List Run} {i:Nat} (h:i+1 < r.length):∃ r1 x y r2,r=r1++x :: y :: r2∧r1.length=i:=by
 refine ⟨r.take i,r[i],r[i+1],r.drop (i+2),?_,by rw [List.length_take]; omega⟩
 rw [← List.drop_eq_getElem_cons h,← List.drop_eq_getElem_cons,List.take_append_drop]
theorem wpS_mergeAt (hO:OneLtAt κ prog w A s) (h0:KeysOf κ a₀) {st:SortSt} {i lo:Nat} {Q:Bool→SortSt→Prop} (I:SI κ a₀ st lo) (hi:i+1 < (pendingOf st).size)
 (h:∀ st',SI κ a₀ st' lo→(arrOf st').toList.drop lo=(arrOf st).toList.drop lo→(pendingOf st').size+1=(pendingOf st).size→Q true st'):wpS (model prog w) A E s (mergeAt' i) Q st:=by
 obtain ⟨r1,⟨sa,na,pa⟩,⟨sb,nb,pb⟩,r2,er,el⟩:=split_two (r:=(pendingOf st).toList) (i:=i) (by rw [Array.length_toList]; exact hi)
 have e1:(pendingOf st)[i]?=some (sa,na,pa):=by
  rw [← Array.getElem?_toList,er,← el,List.getElem?_append_right (Nat.le_refl _),Nat.sub_self]; rfl
 have e2:(pendingOf st)[i+1]?=some (sb,nb,pb):=by
  rw [← Array.getElem?_toList,er,← el,List.getElem?_append_right (by omega),Nat.add_sub_cancel_left]; rfl
 have R:=I.rs
 rw [er] at R
 obtain ⟨P,X,Y,S,eL,f1,f2,f3,f4,f5,f6,sX,sY,f9⟩:=R.two
 have L:(arrOf st).toList=P++(X++(Y++(S++(arrOf st).toList.drop lo))):=by
  have e:=List.take_append_drop lo (arrOf st).toList
  rw [eL] at e
  simp only [List.append_assoc] at e
  exact e.symm
 rw [Nat.zero_add] at f1
 generalize hT:S++(arrOf st).toList.drop lo=T at L
 have hTake:∀ C:List Keyed,C.length=na+nb→(P++(C++T)).take lo=P++(C++S):=fun C hC=>by
  have hlo:lo=(P++(C++S)).length:=by
   have e:=congrArg List.length eL
   rw [List.length_take,Array.length_toList,I.size,Nat.min_eq_left I.lz] at e
   rw [e]
   simp only [List.length_append,hC,f2,f3]; omega
  rw [← hT,← List.append_assoc,← List.append_assoc,hlo]
  have:=List.take_left (l₁:=P++(C++S)) (l₂:=(arrOf st).toList.drop (P++(C++S)).length)
  rw [← List.append_assoc] at this ⊢
  rw [List.append_assoc] at this ⊢
  exact this
 have hasAll:∀ p∈(arrOf st).toList,Has κ p:=fun p hp=>h0 p (I.pm.mem_iff.mp hp)
 have hasX:∀ p∈X,Has κ p:=fun p hp=>hasAll p (by rw [L]; simp [hp])
 have hasY:∀ p∈Y,Has κ p:=fun p hp=>hasAll p (by rw [L]; simp [hp])
 have sz:P.length+(X.length+(Y.length+T.length))=(arrOf st).size:=by
  rw [← Array.length_toList,L]; simp only [List.length_append]
 have L2:(arrOf st).toList=(P++X)++(Y++T):=by rw [L,List.append_assoc]
 have lb:(P++X).length=sb:=by rw [List.length_append]; omega
 have pend:∀ xs:Array Keyed,∀ C:List Keyed,∀ g,xs.toList=P++(C++T)→C.Perm (X++Y)→C.Pairwise (Srt.le κ)→∀ st':SortSt,st'=SortSt.mk' (kindOf st) xs (((pendingOf st).setIfInBounds i (sa,na+nb,pa)).eraseIdxIfInBounds (i+1)) g (failedOf st)→Q true st':=by
  rintro xs C g hx hC sC st' rfl
  have hl:C.length=na+nb:=by rw [hC.length_eq,List.length_append,f2,f3]
  have hp:(((pendingOf st).setIfInBounds i (sa,na+nb,pa)).eraseIdxIfInBounds (i+1)).toList=r1++(sa,na+nb,pa) :: r2:=by
   rw [Array.toList_eraseIdxIfInBounds,Array.toList_setIfInBounds,er]
   exact set_two el
  refine h _ ⟨?_,I.kd,I.fl,?_,I.lz⟩ ?_ ?_
  · show xs.toList.Perm _
    refine List.Perm.trans ?_ I.pm
    rw [hx,L,← List.append_assoc X Y T]
    exact List.Perm.append_left _ (List.Perm.append_right _ hC)
  · show Runs κ (xs.toList.take lo) (((pendingOf st).setIfInBounds i (sa,na+nb,pa)).eraseIdxIfInBounds (i+1)).toList 0
    rw [hp,hx,hTake C hl]
    exact f9 C hl sC
  · show xs.toList.drop lo=_
    have e3:=List.take_append_drop lo (P++(C++T))
    rw [hTake C hl] at e3
    rw [hx]
    refine List.append_cancel_left (as:=P++(C++S)) (e3.trans ?_)
    rw [← hT]; simp only [List.append_assoc]
  · show (((pendingOf st).setIfInBounds i (sa,na+nb,pa)).eraseIdxIfInBounds (i+1)).size+1=_
    rw [← Array.length_toList,hp,← Array.length_toList,er]
    simp only [List.length_append,List.length_cons]; omega
 obtain ⟨b0,hb0⟩:∃ b0,Y[0]?=some b0:=⟨Y[0],List.getElem?_eq_getElem _⟩
 have hB0:(arrOf st)[sb]?=some b0:=by
  have:=at_mid L2 lb (j:=0) (by omega)
  rw [Nat.add_zero] at this
  rw [this,← hb0,List.getElem?_eq_getElem]
 obtain ⟨z,hz⟩:∃ z,X[X.length - 1]?=some z:=⟨X[X.length - 1],List.getElem?_eq_getElem _⟩
 have hZ:(arrOf st)[sa+(X.length - 1)]?=some z:=by
  rw [at_mid L f1.symm (by omega),← hz,List.getElem?_eq_getElem]
 have leZ:=last_mem (by omega) hz sX
 have geB:=head_le hb0 sY
 have bA:sa+na≤(arrOf st).size:=by omega
 have bB:sb+nb≤(arrOf st).size:=by omega
 unfold mergeAt'
 refine wpS_bind (wpS_get ?_)
 rw [e1,e2]
 dsimp only
 refine wpS_bind (wpS_set ?_)
 have segX:((arrOf st).toList.drop sa).take na=X:=by rw [L,f1,List.drop_left,← f2,List.take_left]
 have segY:((arrOf st).toList.drop sb).take nb=Y:=by rw [L2,← lb,List.drop_left,← f3,List.take_left]
 refine wpS_bind (wpS_elem hB0 (wpS_bind (wpS_gallopL hO I.kd (hasY b0 (List.mem_of_getElem? hb0)) bA segX hasX sX (by omega) fun k hkn k1 k2=>?_)))
 dsimp only
 by_cases d1:na - k=0
 · rw [if_pos (by simpa using d1)]
   refine wpS_pure (pend (arrOf st) (X++Y) _ (by rw [L,List.append_assoc]) (.refl _) ?_ _ rfl)
   rw [List.pairwise_append]
   refine ⟨sX,sY,fun p hp q hq=>le_trans (bey_le (k1 p ?_)) (geB q hq)⟩
   rw [List.take_of_length_le (by omega)]; exact hp
 rw [if_neg (by simpa using d1)]
 have hZ':(arrOf st)[sa+k+(na - k) - 1]?=some z:=by rw [← hZ]; congr 1; omega
 refine wpS_bind (wpS_elem hZ' (wpS_bind (wpS_gallopL hO I.kd (hasX z (List.mem_of_getElem? hz)) bB segY hasY sY (by omega) fun n hnn n1 n2=>?_)))
 dsimp only
 by_cases d2:n=0
 · rw [if_pos (by simpa using d2)]
   refine wpS_pure (pend (arrOf st) (X++Y) _ (by rw [L,List.append_assoc]) (.refl _) ?_ _ rfl)
   rw [List.pairwise_append]
   refine ⟨sX,sY,fun p hp q hq=>le_trans (leZ p hp) (bey_ge (n2 q ?_))⟩
   rw [d2,List.drop_zero]; exact hq
 rw [if_neg (by simpa using d2)]
 have lx:(X.drop k).length=na - k:=by rw [List.length_drop,f2]
 have ly:(Y.take n).length=n:=by rw [List.length_take]; omega
 have L3:(arrOf st).toList=(P++X.take k)++(X.drop k++(Y++T)):=by
  rw [L,List.append_assoc,← List.append_assoc (X.take k),List.take_append_drop]
 have L4:(arrOf st).toList=(P++X)++(Y.take n++(Y.drop n++T)):=by
  rw [L2,← List.append_assoc (Y.take n),List.take_append_drop]
 have lp:(P++X.take k).length=sa+k:=by rw [List.length_append,List.length_take]; omega
 have ex:((arrOf st).extract (sa+k) sb).toList=X.drop k:=ext_mid L3 lp (by omega)
 have ey:((arrOf st).extract sb (sb+n)).toList=Y.take n:=ext_mid L4 lb (by omega)
 have sxk:(X.drop k).Pairwise (Srt.le κ):=sX.sublist (List.drop_sublist _ _)
 have syn:(Y.take n).Pairwise (Srt.le κ):=sY.sublist (List.take_sublist _ _)
 have b0x:∀ q∈X.drop k,Srt.le κ b0 q:=fun q hq=>(bey_gt (k2 q hq)).le
 have yz:∀ p∈Y.take n,Srt.le κ p z:=fun p hp=>(bey_lt (n1 p hp)).le
 have zl:(X.drop k).getLast?=some z:=by
  rw [List.getLast?_drop,if_neg (by omega),List.getLast?_eq_getElem?,hz]
 have y0:∀ p,((arrOf st).extract sb (sb+n))[0]?=some p→p=b0:=fun p hp=>by
  rw [← Array.getElem?_toList,ey,List.getElem?_take,if_pos (by omega),hb0] at hp
  exact (Option.some.inj hp).symm
 have fin:∀ (r:Array Keyed) (g:Nat),Good κ ((arrOf st).extract (sa+k) sb) ((arrOf st).extract sb (sb+n)) r →
  ∀ f:Array Keyed→Keyed × Nat→Array Keyed,(∀ a p j,f a (p,j)=a.setIfInBounds (sa+k+j) p) →
  ∀ st':SortSt,st'=SortSt.mk' (kindOf st) (r.toList.zipIdx.foldl f (arrOf st)) (((pendingOf st).setIfInBounds i (sa,na+nb,pa)).eraseIdxIfInBounds (i+1)) g (failedOf st)→Q true st':=by
  rintro r g ⟨hr1,hr2⟩ f hf st' rfl
  rw [ex,ey] at hr1
  have lr:r.toList.length=(X.drop k++Y.take n).length:=hr1.length_eq
  have L5:(arrOf st).toList=(P++X.take k)++((X.drop k++Y.take n)++(Y.drop n++T)):=by
   rw [L3,List.append_assoc (X.drop k),← List.append_assoc (Y.take n),List.take_append_drop]
  have hput:=put_back hf r.toList 0 (arrOf st) _ _ _ L5 (by rw [lp]; rfl) lr.symm
  refine pend _ (X.take k++(r.toList++Y.drop n)) g ?_ ?_ ?_ _ rfl
  · rw [hput]; simp only [List.append_assoc]
  · refine (List.Perm.append_left _ (List.Perm.append_right _ hr1)).trans ?_
    rw [List.append_assoc,List.take_append_drop,← List.append_assoc,List.take_append_drop]
  · exact sorted_join sX sY hr1 hr2 (fun p hp=>bey_le (k1 p hp)) b0x geB (fun q hq=>bey_ge (n2 q hq)) leZ yz
 have fn:failedOf st=none:=I.fl
 have szx:((arrOf st).extract (sa+k) sb).size=na - k:=by rw [← Array.length_toList,ex,lx]
 have szy:((arrOf st).extract sb (sb+n)).size=n:=by rw [← Array.length_toList,ey,ly]
 have px:1≤((arrOf st).extract (sa+k) sb).size:=by omega
 have py:1≤((arrOf st).extract sb (sb+n)).size:=by omega
 have hb:(failedOf st).isNone=true:=by rw [fn]; rfl
 by_cases d3:na - k≤n
 · rw [if_pos d3]
   refine wpS_bind (wpS_mergeLo hO I.kd (by rw [ex]; exact fun p hp=>hasX p (List.mem_of_mem_drop hp)) (by rw [ey]; exact fun p hp=>hasY p (List.mem_of_mem_take hp)) (by rw [ex]; exact sxk) (by rw [ey]; exact syn)
    (fun p hp=>by rw [y0 p hp,ex]; exact b0x) (fun p hp q hq=>?_) px py fun r g hr=>?_)
   · rw [ex,zl] at hq
     rw [ey] at hp
     cases hq
     exact yz p hp
   refine wpS_bind (wpS_modify (wpS_bind (wpS_get ?_)))
   refine wpS_pure ?_
   show Q (failedOf st).isNone _
   rw [hb]
   refine fin r g hr _ ?_ _ rfl
   exact fun _ _ _=>rfl
 · rw [if_neg d3]
   refine wpS_bind (wpS_mergeHi hO I.kd (by rw [ex]; exact fun p hp=>hasX p (List.mem_of_mem_drop hp)) (by rw [ey]; exact fun p hp=>hasY p (List.mem_of_mem_take hp)) (by rw [ex]; exact sxk) (by rw [ey]; exact syn)
    (fun p hp=>by rw [y0 p hp,ex]; exact b0x) (fun p hp q hq=>?_) px py fun r g hr=>?_)
   · rw [← Array.getElem?_toList,ex,← Array.length_toList,ex,← List.getLast?_eq_getElem?,zl] at hq
     rw [ey] at hp
     cases hq
     exact yz p hp
   refine wpS_bind (wpS_modify (wpS_bind (wpS_get ?_)))
   refine wpS_pure ?_
   show Q (failedOf st).isNone _
   rw [hb]
   refine fin r g hr _ ?_ _ rfl
   exact fun _ _ _=>rfl
end
end Srt
namespace Srt
open PySem PyProof.Rows
section
variable {prog:Program} {w:World} {A:Around} {E:Value→Shared→Prop} {s:Shared} {κ:KeyKind} {a₀:Array Keyed}
structure W (st:SortSt) (lo:Nat) (xs:Array Keyed):Prop where
 pm:xs.Perm (arrOf st)
 eq:∀ k,k < lo→xs[k]?=(arrOf st)[k]?
theorem W.size {st:SortSt} {lo:Nat} {xs:Array Keyed} (h:W st lo xs):xs.size=(arrOf st).size:=h.pm.size_eq
theorem W.mirror {st:SortSt} {lo i j:Nat} {xs:Array Keyed} (h:W st lo xs) (hi:lo≤i) (hj:j≤xs.size):W st lo (PyProof.Rows.mirror xs i j ((j - i) / 2)) :=
 ⟨(mirror_perm _ _ _ _).trans h.pm,fun k hk=>by rw [getElem?_mirror_all hj,if_neg (by omega)]; exact h.eq k hk⟩
theorem W.bubble {st:SortSt} {lo i d:Nat} {xs:Array Keyed} (h:W st lo xs) (hi:lo+d≤i) (hj:i < xs.size):W st lo (PyProof.Rows.bubble xs i d) :=
 ⟨(bubble_perm _ _ _).trans h.pm,fun k hk=>by rw [getElem?_bubble hj d (by omega),if_neg (by omega),if_neg (by omega)]; exact h.eq k hk⟩
def Up (κ:KeyKind) (xs:Array Keyed) (lo k:Nat):Prop:=∀ i j,i≤j→j < k→κ.kle (KK κ xs (lo+i)) (KK κ xs (lo+j))
def Down (κ:KeyKind) (xs:Array Keyed) (lo k:Nat):Prop:=∀ i j,i≤j→j < k→κ.kle (KK κ xs (lo+j)) (KK κ xs (lo+i))
theorem kk_some {xs:Array Keyed} {i:Nat} {p:Keyed} (h:xs[i]?=some p):KK κ xs i=kp κ p:=by unfold KK kp; rw [h]
theorem wpS_ltAtS (hO:OneLtAt κ prog w A s) {st:SortSt} {xs:Array Keyed} {lo i j:Nat} {Q:Option Bool→SortSt→Prop} (hk:kindOf st=oneType') (hh:∀ p∈(arrOf st).toList,Has κ p) (hW:W st lo xs) (hi:i < (arrOf st).size) (hj:j < (arrOf st).size)
 (h:Q (some (κ.blt (KK κ xs i) (KK κ xs j))) (setArr st xs)):wpS (model prog w) A E s (ltAt' i j) Q (setArr st xs):=by
 have at_:∀ i,i < (arrOf st).size→∃ p,xs[i]?=some p∧Has κ p:=fun i hi=>by
  have hi':i < xs.size:=by rw [hW.size]; exact hi
  refine ⟨xs[i],getElem?_pos xs i hi',hh _ ((Array.perm_iff_toList_perm.mp hW.pm).mem_iff.mp (mem_at (getElem?_pos xs i hi')))⟩
 obtain ⟨p,hp,Hp⟩:=at_ i hi
 obtain ⟨q,hq,Hq⟩:=at_ j hj
 rw [kk_some hp,kk_some hq] at h
 unfold ltAt'
 refine wpS_bind (wpS_get ?_)
 exact wpS_bind (wpS_elem hp (wpS_bind (wpS_elem hq (wpS_lt hO hk Hp Hq h))))
theorem wpS_binarySortS (hO:OneLtAt κ prog w A s) {st:SortSt} {xs:Array Keyed} {lo n ok:Nat} {Q:Bool→SortSt→Prop} (hk:kindOf st=oneType') (hh:∀ p∈(arrOf st).toList,Has κ p) (hW:W st lo xs) (hn:lo+n≤(arrOf st).size) (hok:ok≤n) (hs:Up κ xs lo ok)
 (h:∀ ys,W st lo ys→Up κ ys lo n→Q true (setArr st ys)):wpS (model prog w) A E s (binarySort' lo n ok) Q (setArr st xs):=by
 unfold binarySort'
 refine wpS_bind (wpS_mono (wpS_forRange (I:=fun k c st'=>c=(none,())∧∃ ys,st'=setArr st ys∧W st lo ys∧Up κ ys lo (min k n))
  (Q:=fun c st'=>c=(none,())∧∃ ys,st'=setArr st ys∧W st lo ys∧Up κ ys lo n) ?step ?fin ⟨rfl,xs,rfl,hW,?init⟩) ?post)
 case post =>
  rintro c st' ⟨rfl,ys,rfl,hW',hs'⟩
  exact wpS_pure (h ys hW' hs')
 case init =>
  intro i j hij hj
  by_cases h1:ok=0
  · have:i=j:=by omega
    subst this; exact KeyOrd.kle_refl _
  · exact hs i j hij (by omega)
 case fin =>
  rintro c st' ⟨hc,ys,rfl,hW',hs'⟩
  refine ⟨hc,ys,rfl,hW',?_⟩
  rwa [show min (max (max ok 1) n) n=n by omega] at hs'
 case step =>
  rintro k c st' hak hkn ⟨rfl,ys,rfl,hW',hs'⟩
  rw [show min k n=k by omega] at hs'
  have hks:lo+k < ys.size:=by rw [hW'.size]; omega
  refine wpS_bind (wpS_mono (wpS_forRange (I:=fun x c st''=>st''=setArr st ys∧∃ l r,c=(none,l,r)∧l≤r∧r≤k∧r - l≤k - x ∧
   (∀ i,i < l→κ.kle (KK κ ys (lo+i)) (KK κ ys (lo+k)))∧(∀ i,r≤i→i < k→κ.klt (KK κ ys (lo+k)) (KK κ ys (lo+i))))
   (Q:=fun c st''=>st''=setArr st ys∧∃ l r,c=(none,l,r)∧l≤k ∧
    (∀ i,i < l→κ.kle (KK κ ys (lo+i)) (KK κ ys (lo+k)))∧(∀ i,l≤i→i < k→κ.klt (KK κ ys (lo+k)) (KK κ ys (lo+i)))) ?istep ?ifin ⟨rfl,0,k,rfl,by omega,by omega,by omega,fun i hi=>by omega,fun i h1 h2=>by omega⟩) ?ipost)
  case ifin =>
   rintro c st'' ⟨rfl,l,r,rfl,hlr,hrk,hm,hlo,hhi⟩
   have:l=r:=by omega
   subst this
   exact ⟨rfl,l,l,rfl,hrk,hlo,hhi⟩
  case istep =>
   rintro x c st'' _ hxk ⟨rfl,l,r,rfl,hlr,hrk,hm,hlo,hhi⟩
   dsimp only
   by_cases hge:l ≥ r
   · rw [if_pos hge]
     have:l=r:=by omega
     subst this
     exact wpS_pure ⟨rfl,l,l,rfl,hrk,hlo,hhi⟩
   · rw [if_neg hge]
     refine wpS_bind (wpS_ltAtS hO hk hh hW' (by omega) (by omega) ?_)
     cases hless:κ.blt (KK κ ys (lo+k)) (KK κ ys (lo+(l+r) / 2)) with
     | true =>
      dsimp only
      rw [if_pos rfl]
      exact wpS_pure ⟨rfl,l,(l+r) / 2,rfl,by omega,by omega,by omega,hlo,fun i h1 h2=>KeyOrd.klt_of_klt_of_kle hless (hs' _ _ h1 h2)⟩
     | false =>
      dsimp only
      rw [if_neg (by decide)]
      exact wpS_pure ⟨rfl,(l+r) / 2+1,r,rfl,by omega,by omega,by omega,fun i h1=>KeyOrd.kle_trans (hs' i ((l+r) / 2) (by omega) (by omega)) (show κ.kle _ _ from hless),hhi⟩
  case ipost =>
   rintro c st'' ⟨rfl,l,r,rfl,hlk,hlo,hhi⟩
   show wpS _ _ _ _ (do moveDown' (lo+k) (lo+l); pure (ForInStep.yield (none,()))) _ _
   rw [moveDown'_eq]
   refine wpS_bind (wpS_modify (wpS_pure ⟨rfl,_,rfl,hW'.bubble (i:=lo+k) (d:=lo+k - (lo+l)) (by omega) hks,?_⟩))
   rw [show min (k+1) n=k+1 by omega]
   intro i j hij hj
   show κ.kle (KK κ (PyProof.Rows.bubble ys (lo+k) (lo+k - (lo+l))) (lo+i)) (KK κ (PyProof.Rows.bubble ys (lo+k) (lo+k - (lo+l))) (lo+j))
   rw [KK_bubble hks (by omega),KK_bubble hks (by omega),show lo+k - (lo+k - (lo+l))=lo+l by omega]
   have e1:∀ i,l < i→lo+i - 1=lo+(i - 1):=fun i hi=>by omega
   by_cases i1:i=l
   · subst i1
     rw [if_pos rfl]
     by_cases j1:j=i
     · subst j1; rw [if_pos rfl]; exact KeyOrd.kle_refl _
     · rw [if_neg (by omega),if_pos (by omega),e1 j (by omega)]
       exact KeyOrd.kle_of_klt (hhi _ (by omega) (by omega))
   · rw [if_neg (by omega)]
     by_cases i2:l < i
     · rw [if_pos (by omega),if_neg (by omega),if_pos (by omega),e1 i i2,e1 j (by omega)]
       exact hs' _ _ (by omega) (by omega)
     · rw [if_neg (by omega)]
       by_cases j1:j=l
       · subst j1; rw [if_pos rfl]; exact hlo _ (by omega)
       · rw [if_neg (by omega)]
         by_cases j2:l < j
         · rw [if_pos (by omega),e1 j j2]
           exact hs' _ _ (by omega) (by omega)
         · rw [if_neg (by omega)]; exact hs' _ _ (by omega) (by omega)
end
end Srt
namespace Srt
open PySem PyProof.Rows
section
variable {prog:Program} {w:World} {A:Around} {E:Value→Shared→Prop} {s:Shared} {κ:KeyKind} {a₀:Array Keyed}
theorem rev_eq (i j:Nat):reverseSlice' i j=modify fun st=>setArr st (PyProof.Rows.mirror (arrOf st) i j ((j - i) / 2)):=rfl
theorem wpS_rev {st:SortSt} {xs:Array Keyed} {i j:Nat} {Q:Unit→SortSt→Prop} (h:Q () (setArr st (PyProof.Rows.mirror xs i j ((j - i) / 2)))):wpS (model prog w) A E s (reverseSlice' i j) Q (setArr st xs):=by
 rw [rev_eq]; exact wpS_modify h
theorem wpS_countRunS (hO:OneLtAt κ prog w A s) {st:SortSt} {xs:Array Keyed} {lo nrem:Nat} {Q:Option Nat→SortSt→Prop} (hk:kindOf st=oneType') (hh:∀ p∈(arrOf st).toList,Has κ p) (hW:W st lo xs) (hn:lo+nrem≤(arrOf st).size) (h1:1≤nrem)
 (h:∀ m ys,W st lo ys→1≤m→m≤nrem→Up κ ys lo m→Q (some m) (setArr st ys)):wpS (model prog w) A E s (countRun' lo nrem) Q (setArr st xs):=by
 have asc:∀ (f:Nat→Option (Option Nat) × Nat→StateT SortSt Sem (ForInStep (Option (Option Nat) × Nat)))
  (hf:∀ (x n:Nat) (ys:Array Keyed) {Q':ForInStep (Option (Option Nat) × Nat)→SortSt→Prop},W st lo ys→1≤n→n < nrem →
   (κ.blt (KK κ ys (lo+n)) (KK κ ys (lo+(n - 1)))=true→Q' (.done (none,n)) (setArr st ys))→(κ.blt (KK κ ys (lo+n)) (KK κ ys (lo+(n - 1)))=false→Q' (.yield (none,n+1)) (setArr st ys))→wpS (model prog w) A E s (f x (none,n)) Q' (setArr st ys))
  (a:Nat) (ys:Array Keyed),W st lo ys→1≤a→a≤nrem→Up κ ys lo a →
  wpS (model prog w) A E s (forIn [a:nrem] ((none,a):Option (Option Nat) × Nat) f) (fun c st'=>st'=setArr st ys∧∃ n,c=(none,n)∧a≤n∧n≤nrem∧Up κ ys lo n∧(n=nrem∨κ.klt (KK κ ys (lo+n)) (KK κ ys (lo+(n - 1))))) (setArr st ys):=by
  intro f hf a ys hWy ha han hs
  refine wpS_forRange (I:=fun x c st'=>st'=setArr st ys∧c=(none,x)∧Up κ ys lo x) ?step ?fin ⟨rfl,rfl,hs⟩
  case fin =>
   rintro c st' ⟨rfl,rfl,hs'⟩
   rw [show max a nrem=nrem by omega] at hs' ⊢
   exact ⟨rfl,nrem,rfl,han,Nat.le_refl _,hs',.inl rfl⟩
  case step =>
   rintro x c st' hax hxn ⟨rfl,rfl,hs'⟩
   refine hf x x ys hWy (by omega) hxn (fun hb=>?_) fun hb=>?_
   · exact ⟨rfl,x,rfl,hax,by omega,hs',.inr hb⟩
   · refine ⟨rfl,rfl,fun i j hij hj=>?_⟩
     by_cases hjx:j < x
     · exact hs' i j hij hjx
     · have hj':j=x:=by omega
       subst hj'
       by_cases hi':i=j
       · subst hi'; exact KeyOrd.kle_refl _
       · exact KeyOrd.kle_trans (hs' i (j - 1) (by omega) (by omega)) hb
 unfold countRun'
 refine wpS_bind (wpS_mono (asc _ ?hf 1 xs hW (Nat.le_refl _) h1 (fun i j hij hj=>by have:i=j:=(by omega); subst this; exact KeyOrd.kle_refl _)) ?post)
 case hf =>
  intro x n ys Q' hWy g1 g2 q1 q2
  dsimp only
  rw [show lo+n - 1=lo+(n - 1) by omega]
  refine wpS_bind (wpS_ltAtS hO hk hh hWy (by omega) (by omega) ?_)
  cases hb:κ.blt (KK κ ys (lo+n)) (KK κ ys (lo+(n - 1))) with
  | true=>exact wpS_pure (q1 hb)
  | false=>exact wpS_pure (q2 hb)
 case post =>
  rintro c st' ⟨rfl,n,rfl,hn1,hn2,hsn,hor⟩
  dsimp only
  by_cases hnn:n=nrem
  · rw [if_pos (by simpa using hnn)]
    exact wpS_pure (h n xs hW hn1 hn2 hsn)
  rw [if_neg (by simpa using hnn)]
  have hlt:κ.klt (KK κ xs (lo+n)) (KK κ xs (lo+(n - 1))):=hor.resolve_left hnn
  have hsz:lo+n≤xs.size:=by rw [hW.size]; omega
  by_cases hgt:n > 1
  case' pos =>
   rw [if_pos hgt]
   rw [show lo+n - 1=lo+(n - 1) by omega]
   refine wpS_bind (wpS_ltAtS hO hk hh hW (by omega) (by omega) ?_)
   cases hrose:κ.blt (KK κ xs lo) (KK κ xs (lo+(n - 1)))
   case' true =>
    exact wpS_pure (h n xs hW hn1 hn2 hsn)
   have hall:∀ k,lo≤k→k < lo+n→KK κ xs k=KK κ xs (lo+n - 1):=by
    intro k hk1 hk2
    have a1:=hsn 0 (k - lo) (by omega) (by omega)
    have a2:=hsn (k - lo) (n - 1) (by omega) (by omega)
    rw [show lo+(k - lo)=k by omega] at a1 a2
    rw [show lo+n - 1=lo+(n - 1) by omega]
    exact KeyOrd.kle_antisymm a2 (KeyOrd.kle_trans hrose a1)
   refine wpS_bind (wpS_rev ?_)
   have hWD:=hW.mirror (i:=lo) (j:=lo+n) (Nat.le_refl _) hsz
   have hD:Down κ (PyProof.Rows.mirror xs lo (lo+n) ((lo+n - lo) / 2)) lo (n+1):=by
    intro i j hij hj
    rw [KK_mirror_equal hsz hall,KK_mirror_equal hsz hall]
    by_cases hjn:j < n
    · rw [hall (lo+i) (by omega) (by omega),hall (lo+j) (by omega) (by omega)]; exact KeyOrd.kle_refl _
    · have hj':j=n:=by omega
      subst hj'
      by_cases hi':i=j
      · subst hi'; exact KeyOrd.kle_refl _
      · rw [hall (lo+i) (by omega) (by omega),show lo+j - 1=lo+(j - 1) by omega]; exact KeyOrd.kle_of_klt hlt
   generalize PyProof.Rows.mirror xs lo (lo+n) ((lo+n - lo) / 2)=ys at hWD hD ⊢
   clear hrose hall
  case' neg =>
   rw [if_neg hgt]
   have hD:Down κ xs lo (n+1):=by
    intro i j hij hj
    by_cases hi':i=j
    · subst hi'; exact KeyOrd.kle_refl _
    · have hi0:i=0:=by omega
      have hj1:j=n:=by omega
      subst hi0; subst hj1
      have:j - 1=0:=by omega
      rw [this] at hlt
      exact KeyOrd.kle_of_klt hlt
   have hWD:=hW
   generalize xs=ys at hWD hD ⊢
  all_goals
   refine wpS_bind (wpS_lift (wpAny_rule ⟨rfl,?_⟩))
   refine wpS_bind (wpS_mono (wpS_forRange (I:=fun x c st'=>∃ neq zs,c=(none,x,neq)∧st'=setArr st zs∧W st lo zs∧Down κ zs lo x∧neq+1≤x∧(∀ i,x - (neq+1)≤i→i < x→KK κ zs (lo+i)=KK κ zs (lo+(x - 1))))
    (Q:=fun c st'=>∃ m neq zs,c=(none,m,neq)∧st'=setArr st zs∧W st lo zs∧n+1≤m∧m≤nrem∧Down κ zs lo m∧neq+1≤m∧(∀ i,m - (neq+1)≤i→i < m→KK κ zs (lo+i)=KK κ zs (lo+(m - 1)))) ?step ?fin ⟨0,ys,rfl,rfl,hWD,hD,by omega,fun i h1 h2=>by congr 2; omega⟩) ?post)
   case fin =>
    rintro c st' ⟨neq,zs,rfl,rfl,hz,hs',hq,he⟩
    rw [show max (n+1) nrem=nrem by omega] at hs' hq he ⊢
    exact ⟨nrem,neq,zs,rfl,rfl,hz,by omega,Nat.le_refl _,hs',hq,he⟩
   case step =>
    rintro x c st' hax hxn ⟨neq,zs,rfl,rfl,hz,hs',hq,he⟩
    dsimp only
    have hzs:lo+x≤zs.size:=by rw [hz.size]; omega
    rw [show lo+x - 1=lo+(x - 1) by omega]
    refine wpS_bind (wpS_ltAtS hO hk hh hz (by omega) (by omega) ?_)
    cases hless:κ.blt (KK κ zs (lo+x)) (KK κ zs (lo+(x - 1))) with
    | true =>
     dsimp only
     rw [if_pos rfl]
     have step1:∀ us:Array Keyed,(∀ k,KK κ us k=KK κ zs k)→Down κ us lo (x+1):=by
      intro us hkk i j hij hj
      rw [hkk,hkk]
      by_cases hjx:j < x
      · exact hs' i j hij hjx
      · have hj':j=x:=by omega
        subst hj'
        by_cases hi':i=j
        · subst hi'; exact KeyOrd.kle_refl _
        · exact KeyOrd.kle_trans (KeyOrd.kle_of_klt hless) (hs' i (j - 1) (by omega) (by omega))
     have he':∀ k,lo+x - (neq+1)≤k→k < lo+x→KK κ zs k=KK κ zs (lo+x - 1):=fun k k1 k2=>by
      have:=he (k - lo) (by omega) (by omega)
      rw [show lo+(k - lo)=k by omega] at this
      rw [this]; congr 1; omega
     by_cases hneq:neq > 0
     · rw [if_pos hneq]
       exact wpS_bind (wpS_rev (wpS_pure ⟨0,_,rfl,rfl,hz.mirror (by omega) hzs,step1 _ (KK_mirror_equal hzs he'),by omega,fun i h1 h2=>by congr 2; omega⟩))
     · rw [if_neg hneq]
       exact wpS_pure ⟨0,zs,rfl,rfl,hz,step1 _ (fun _=>rfl),by omega,fun i h1 h2=>by congr 2; omega⟩
    | false =>
     dsimp only
     rw [if_neg (by decide)]
     refine wpS_bind (wpS_ltAtS hO hk hh hz (by omega) (by omega) ?_)
     cases hlarger:κ.blt (KK κ zs (lo+(x - 1))) (KK κ zs (lo+x)) with
     | true =>
      dsimp only
      rw [if_pos rfl]
      exact wpS_pure ⟨x,neq,zs,rfl,rfl,hz,hax,by omega,hs',hq,he⟩
     | false =>
      dsimp only
      rw [if_neg (by decide)]
      have heqx:KK κ zs (lo+x)=KK κ zs (lo+(x - 1)):=KeyOrd.kle_antisymm hlarger hless
      refine wpS_pure ⟨neq+1,zs,rfl,rfl,hz,fun i j hij hj=>?_,by omega,fun i h1 h2=>?_⟩
      · by_cases hjx:j < x
        · exact hs' i j hij hjx
        · have hj':j=x:=by omega
          subst hj'
          by_cases hi':i=j
          · subst hi'; exact KeyOrd.kle_refl _
          · rw [heqx]; exact hs' i (j - 1) (by omega) (by omega)
      · rw [show x+1 - 1=x by omega]
        by_cases hix:i=x
        · subst hix; rfl
        · rw [heqx]; exact he i (by omega) (by omega)
   case post =>
    rintro c st' ⟨m,neq,zs,rfl,rfl,hz,hm1,hm2,hs',hq,he⟩
    dsimp only
    have hzs:lo+m≤zs.size:=by rw [hz.size]; omega
    have he':∀ k,lo+m - (neq+1)≤k→k < lo+m→KK κ zs k=KK κ zs (lo+m - 1):=fun k k1 k2=>by
     have:=he (k - lo) (by omega) (by omega)
     rw [show lo+(k - lo)=k by omega] at this
     rw [this]; congr 1; omega
    by_cases hneq:neq > 0
    case' pos =>
     rw [if_pos hneq]
     refine wpS_bind (wpS_rev ?_)
     have hWE:=hz.mirror (i:=lo+m - (neq+1)) (j:=lo+m) (by omega) hzs
     have hE:Down κ (PyProof.Rows.mirror zs (lo+m - (neq+1)) (lo+m) ((lo+m - (lo+m - (neq+1))) / 2)) lo m:=by
      intro i j hij hj
      rw [KK_mirror_equal hzs he',KK_mirror_equal hzs he']
      exact hs' i j hij hj
     clear he'
     generalize PyProof.Rows.mirror zs (lo+m - (neq+1)) (lo+m) ((lo+m - (lo+m - (neq+1))) / 2)=us at hWE hE ⊢
    case' neg =>
     rw [if_neg hneq]
     have hWE:=hz
     have hE:=hs'
     clear he'
     generalize zs=us at hWE hE ⊢
    all_goals
     have hus:lo+m≤us.size:=by rw [hWE.size]; omega
     refine wpS_bind (wpS_rev ?_)
     refine wpS_bind (wpS_mono (asc _ ?hf2 m _ (hWE.mirror (i:=lo) (j:=lo+m) (Nat.le_refl _) hus) (by omega) hm2 ?up) ?post2)
     case up =>
      intro i j hij hj
      rw [KK_mirror hus,KK_mirror hus,if_pos (by omega),if_pos (by omega)]
      have:=hE (m - 1 - j) (m - 1 - i) (by omega) (by omega)
      rw [show lo+(lo+m) - 1 - (lo+i)=lo+(m - 1 - i) by omega,show lo+(lo+m) - 1 - (lo+j)=lo+(m - 1 - j) by omega]
      exact this
     case post2 =>
      rintro c st' ⟨rfl,n',rfl,k1,k2,k3,_⟩
      exact wpS_pure (h n' _ (hWE.mirror (i:=lo) (j:=lo+m) (Nat.le_refl _) hus) (by omega) k2 k3)
     case hf2 =>
      intro x n ys Q' hWy g1 g2 q1 q2
      dsimp only
      rw [show lo+n - 1=lo+(n - 1) by omega]
      refine wpS_bind (wpS_ltAtS hO hk hh hWy (by omega) (by omega) ?_)
      cases hb:κ.blt (KK κ ys (lo+n)) (KK κ ys (lo+(n - 1))) with
      | true=>exact wpS_pure (q1 hb)
      | false=>exact wpS_pure (q2 hb)
end
end Srt
namespace Srt
open PySem PyProof.Rows
section
variable {prog:Program} {w:World} {A:Around} {E:Value→Shared→Prop} {s:Shared} {κ:KeyKind} {a₀:Array Keyed}
theorem W.take {st:SortSt} {lo:Nat} {xs:Array Keyed} (h:W st lo xs):xs.toList.take lo=(arrOf st).toList.take lo:=by
 refine List.ext_getElem? fun k=>?_
 rw [List.getElem?_take,List.getElem?_take]
 by_cases hk:k < lo
 · rw [if_pos hk,if_pos hk,Array.getElem?_toList,Array.getElem?_toList]; exact h.eq k hk
 · rw [if_neg hk,if_neg hk]
theorem SI.setArr {st:SortSt} {lo:Nat} {xs:Array Keyed} (I:SI κ a₀ st lo) (h:W st lo xs):SI κ a₀ (PyProof.Rows.setArr st xs) lo :=
 ⟨(Array.perm_iff_toList_perm.mp h.pm).trans I.pm,I.kd,I.fl,by
   show Runs κ (xs.toList.take lo) (pendingOf st).toList 0
   rw [h.take]; exact I.rs,I.lz⟩
theorem up_list {xs:Array Keyed} {lo n:Nat} (h:Up κ xs lo n) (hn:lo+n≤xs.size):((xs.toList.drop lo).take n).Pairwise (Srt.le κ):=by
 rw [List.pairwise_iff_getElem]
 intro i j hi hj hij
 rw [List.length_take,List.length_drop,Array.length_toList] at hi hj
 have h2:=h i j (by omega) (by omega)
 rw [kk_some (getElem?_pos xs (lo+i) (by omega)),kk_some (getElem?_pos xs (lo+j) (by omega))] at h2
 rw [List.getElem_take,List.getElem_take,List.getElem_drop,List.getElem_drop,Array.getElem_toList,Array.getElem_toList]
 exact h2
theorem SI.addRun {st:SortSt} {lo n p:Nat} {D:List Keyed} (I:SI κ a₀ st lo) (hD:(arrOf st).toList.drop lo=D) (hs:(D.take n).Pairwise (Srt.le κ)) (hn:1≤n) (hz:lo+n≤a₀.size) (st':SortSt) (e:st'=SortSt.mk' (kindOf st) (arrOf st) ((pendingOf st).push (lo,n,p)) (gallopOf st) (failedOf st)):SI κ a₀ st' (lo+n):=by
 subst e
 refine ⟨I.pm,I.kd,I.fl,?_,hz⟩
 show Runs κ ((arrOf st).toList.take (lo+n)) ((pendingOf st).push (lo,n,p)).toList 0
 have hlen:(arrOf st).toList.length=a₀.size:=by rw [Array.length_toList,I.size]
 have l1:((arrOf st).toList.take lo).length=lo:=by rw [List.length_take]; omega
 have l2:(D.take n).length=n:=by rw [List.length_take,← hD,List.length_drop]; omega
 rw [List.take_add,hD,Array.toList_push]
 have:=Runs.add (p:=p) hn l2 hs I.rs
 rw [l1,Nat.zero_add] at this
 exact this
theorem SI.label {st:SortSt} {lo k:Nat} {f:Run→Run} (I:SI κ a₀ st lo) (hf:∀ x,(f x).1=x.1∧(f x).2.1=x.2.1) (st':SortSt) (e:st'=SortSt.mk' (kindOf st) (arrOf st) ((pendingOf st).modify k f) (gallopOf st) (failedOf st)):SI κ a₀ st' lo:=by
 subst e
 refine ⟨I.pm,I.kd,I.fl,?_,I.lz⟩
 show Runs κ ((arrOf st).toList.take lo) ((pendingOf st).modify k f).toList 0
 refine Runs.alike ?_ I.rs
 rw [Array.toList_modify]
 refine List.ext_getElem? fun i=>?_
 rw [List.getElem?_map,List.getElem?_map,List.getElem?_modify]
 cases (pendingOf st).toList[i]? with
 | none=>rfl
 | some x =>
  show some _=some ((if k=i then f x else x).1,(if k=i then f x else x).2.1)
  by_cases hk:k=i
  · rw [if_pos hk,(hf x).1,(hf x).2]
  · rw [if_neg hk]
theorem wpS_sortRunsS (hO:OneLtAt κ prog w A s) (h0:KeysOf κ a₀) {st:SortSt} {Q:Unit→SortSt→Prop} (hp:(arrOf st).toList.Perm a₀.toList) (hk:kindOf st=oneType') (hf:failedOf st=none) (he:pendingOf st=#[])
 (h:∀ st',(arrOf st').toList.Perm a₀.toList→failedOf st'=none→(arrOf st').toList.Pairwise (Srt.le κ)→Q () st'):wpS (model prog w) A E s sortRuns' Q st:=by
 have hsz:(arrOf st).size=a₀.size:=by rw [← Array.length_toList,hp.length_eq,Array.length_toList]
 have I0:SI κ a₀ st 0:=⟨hp,hk,hf,by rw [he]; exact rfl,Nat.zero_le _⟩
 unfold sortRuns'
 refine wpS_bind (wpS_get ?_)
 generalize (arrOf st).size=N at hsz ⊢
 subst hsz
 refine wpS_bind (wpS_mono (wpS_forRange
  (I:=fun x c st'=>∃ lo,c=(none,lo)∧SI κ a₀ st' lo∧x≤lo)
  (Q:=fun c st'=>c=(none,a₀.size)∧SI κ a₀ st' a₀.size) ?step ?fin ⟨0,rfl,I0,Nat.zero_le _⟩) ?post)
 case fin =>
  rintro c st' ⟨lo,rfl,I,hx⟩
  have h1:=I.lz
  have:lo=a₀.size:=by omega
  subst this
  exact ⟨rfl,I⟩
 case step =>
  rintro x c st' _ hx ⟨lo,rfl,I,hxl⟩
  dsimp only
  have h1:=I.lz
  by_cases hge:lo ≥ a₀.size
  · rw [if_pos hge]
    have:lo=a₀.size:=by omega
    subst this
    exact wpS_pure ⟨rfl,I⟩
  rw [if_neg hge]
  have hsz':(arrOf st').size=a₀.size:=I.size
  have hh:∀ p∈(arrOf st').toList,Has κ p:=fun p hp=>h0 p (I.pm.mem_iff.mp hp)
  have hW:W st' lo (arrOf st'):=⟨Array.Perm.refl _,fun _ _=>rfl⟩
  refine wpS_bind (wpS_countRunS hO (st:=st') I.kd hh hW (by omega) (by omega) fun m ys hWy hm1 hm2 hup=>?_)
  dsimp only
  generalize ((sortPriv% PySem.Builtin.minRun) a₀.size a₀.size 0:Nat)=mr
  by_cases hmr:m < mr
  case' pos =>
   rw [if_pos hmr]
   refine wpS_bind (wpS_lift (wpAny_rule ⟨rfl,?_⟩))
   refine wpS_bind (wpS_binarySortS hO I.kd hh hWy (by omega) (by omega) hup fun zs hWz hup2=>?_)
   try dsimp only
   rw [if_neg (by decide)]
   have hn1:1≤min (a₀.size - lo) mr:=by omega
   have hn2:min (a₀.size - lo) mr≤a₀.size - lo:=Nat.min_le_left _ _
   generalize min (a₀.size - lo) mr=n at hup2 hn1 hn2 ⊢
  case' neg =>
   rw [if_neg hmr]
   have hWz:=hWy
   have hup2:=hup
   have hn1:=hm1
   have hn2:=hm2
   generalize ys=zs at hWz hup2 ⊢
   generalize m=n at hup2 hn1 hn2 ⊢
  all_goals
   have I2:=I.setArr hWz
   have hs2:(((arrOf (PyProof.Rows.setArr st' zs)).toList.drop lo).take n).Pairwise (Srt.le κ):=up_list hup2 (by rw [hWz.size]; omega)
   generalize PyProof.Rows.setArr st' zs=st2 at I2 hs2 ⊢
   have push:∀ st3:SortSt,SI κ a₀ st3 lo→(arrOf st3).toList.drop lo=(arrOf st2).toList.drop lo→∀ st4:SortSt,st4=SortSt.mk' (kindOf st3) (arrOf st3) ((pendingOf st3).push (lo,n,0)) (gallopOf st3) (failedOf st3)→SI κ a₀ st4 (lo+n) :=
    fun st3 I3 e3 st4 e4=>I3.addRun e3 hs2 hn1 (by omega) st4 e4
   refine wpS_bind (wpS_get ?_)
   cases hbk:(pendingOf st2).back? with
   | none =>
    dsimp only
    exact wpS_bind (wpS_modify (wpS_pure ⟨lo+n,rfl,push st2 I2 rfl _ rfl,by omega⟩))
   | some run =>
    obtain ⟨s1,n1,p1⟩:=run
    dsimp only
    refine wpS_bind (wpS_mono (wpS_forRange
     (I:=fun _ c st3=>c=(none,())∧SI κ a₀ st3 lo∧(arrOf st3).toList.drop lo=(arrOf st2).toList.drop lo)
     (Q:=fun c st3=>c=(none,())∧SI κ a₀ st3 lo∧(arrOf st3).toList.drop lo=(arrOf st2).toList.drop lo) ?stepM (fun _ _ hh=>hh) ⟨rfl,I2,rfl⟩) ?postM)
    case stepM =>
     rintro x c st3 _ _ ⟨rfl,I3,e3⟩
     refine wpS_bind (wpS_get ?_)
     by_cases hp2:(pendingOf st3).size > 1
     · have hix:(pendingOf st3).size - 2+1 < (pendingOf st3).size:=by omega
       rw [if_pos hp2]
       cases hop:(pendingOf st3)[(pendingOf st3).size - 2]? with
       | none=>exact wpS_pure ⟨rfl,I3,e3⟩
       | some old =>
        obtain ⟨o1,o2,o3⟩:=old
        dsimp only
        split
        · exact wpS_pure ⟨rfl,I3,e3⟩
        · refine wpS_bind (wpS_mergeAt hO h0 I3 hix fun st4 I4 e4 _=>?_)
          rw [if_neg (by decide)]
          exact wpS_pure ⟨rfl,I4,e4.trans e3⟩
     · rw [if_neg hp2]
       exact wpS_pure ⟨rfl,I3,e3⟩
    case postM =>
     rintro c st3 ⟨rfl,I3,e3⟩
     dsimp only
     refine wpS_bind (wpS_modify (wpS_bind (wpS_modify (wpS_pure ⟨lo+n,rfl,?_,by omega⟩))))
     refine push _ (I3.label (f:=_) ?_ _ rfl) e3 _ rfl
     exact fun x=>⟨rfl,rfl⟩
 case post =>
  rintro c st' ⟨rfl,I⟩
  dsimp only
  have few:=I.rs.few
  rw [Array.length_toList,List.length_take,Array.length_toList,I.size,Nat.min_self] at few
  refine wpS_bind (wpS_mono (wpS_forRange
   (I:=fun x c st3=>c=(none,())∧SI κ a₀ st3 a₀.size∧(pendingOf st3).size+x≤a₀.size)
   (Q:=fun c st3=>c=(none,())∧SI κ a₀ st3 a₀.size∧(pendingOf st3).size≤1) ?step ?fin ⟨rfl,I,few⟩) ?post)
  case fin =>
   rintro c st3 ⟨rfl,I3,e3⟩
   exact ⟨rfl,I3,by omega⟩
  case step =>
   rintro x c st3 _ _ ⟨rfl,I3,e3⟩
   try dsimp only
   refine wpS_bind (wpS_get ?_)
   by_cases hp2:(pendingOf st3).size≤1
   · rw [if_pos hp2]
     exact wpS_pure ⟨rfl,I3,hp2⟩
   · have hix:∀ i,i≤(pendingOf st3).size - 2→i+1 < (pendingOf st3).size:=fun i hi=>by omega
     rw [if_neg hp2]
     refine wpS_bind (wpS_mergeAt hO h0 I3 (hix _ ?_) fun st4 I4 e4 hz=>?_)
     · have h5:∀ (c:Prop) [Decidable c] (n:Nat),(if c then n - 1 else n)≤n:=fun c _ n=>by
        by_cases hc:c
        · rw [if_pos hc]; exact Nat.sub_le _ _
        · rw [if_neg hc]; exact Nat.le_refl _
       exact h5 _ _
     · rw [if_neg (by decide)]
       exact wpS_pure ⟨rfl,I4,by omega⟩
  case post =>
   rintro c st3 ⟨rfl,I3,e3⟩
   refine wpS_pure (h st3 I3.pm I3.fl ?_)
   have:=I3.rs.one (by rw [Array.length_toList]; exact e3)
   rw [List.take_of_length_le (by rw [Array.length_toList,I3.size]; exact Nat.le_refl _)] at this
   exact this
end
end Srt
namespace Srt
open PySem PyProof.Rows
section
variable {prog:Program} {w:World} {A:Around} {E:Value→Shared→Prop} {s:Shared} {κ:KeyKind}
theorem neA {b n m:Nat} (h:b < n) (hm:n≤m):b ≠ m:=Nat.ne_of_lt (Nat.lt_of_lt_of_le h hm)
def midHeap (h:Heap) (a:Addr) (vs:List Value):Heap:=((h.update a (Obj.mapSeq fun _=>#[])).push (seqObj "tuple" vs.toArray 0)).push (seqObj "list" #[] 0)
theorem midHeap_old {h:Heap} {a b:Addr} {vs:List Value} {o:Obj} (hb:h.get? b=some o) (hne:b ≠ a):(midHeap h a vs).get? b=some o:=by
 have hlt:=Heap.lt_size hb
 unfold midHeap
 rw [Heap.get?_push_ne _ _ _ (by rw [size_push',Heap.size_update]; exact neA hlt (Nat.le_succ _)),Heap.get?_push_ne _ _ _ (by rw [Heap.size_update]; exact neA hlt (Nat.le_refl _)),Heap.get?_update_ne _ _ _ _ hne]
 exact hb
theorem sort_call {a:Addr} {vs:List Value} {n:Nat} {P:Fin→Shared→Prop} (ho:s.heap.get? a=some (seqObj "list" vs.toArray n)) (h0:KeysOf κ (pairsOf vs)) (hz:vs.length≤1000)
 (hK:2≤vs.length→∀ Q:SortKind→Shared→Prop,Q oneType' { s with heap:=midHeap s.heap a vs }→wpAny (model prog w) A (keyKind' vs.toArray) Q E { s with heap:=midHeap s.heap a vs })
 (hO:OneLtAt κ prog w A { s with heap:=midHeap s.heap a vs })
 (h:∀ xs:Array Keyed,xs.toList.Perm (vs.zip vs)→xs.toList.Pairwise (Srt.le κ)→P (.done (.ret .none)) { s with heap:=sortedHeap s.heap a vs (xs.map (·.2)) }):wpAny (model prog w) A (Builtin.«list.sort» ⟨[.ref a],[]⟩) P E s:=by
 have ha:a < s.heap.objs.size:=Heap.lt_size ho
 have hsz:vs.toArray.size=vs.length:=List.size_toArray
 have hline:(1000:Nat)≤sizeLine:=by rw [sizeLine_eq]; omega
 rw [list_sort_plain]
 refine wpAny_bind (listItems_at ho rfl (wpAny_bind (listUpdate_at ho rfl ?_ (by rw [hsz]; omega) (Nat.zero_le _))))
 obtain ⟨e1,g1⟩:∃ e1,(s.heap.update a (Obj.mapSeq fun _=>#[])).get? a=some (seqObj "list" #[] e1):=⟨_,get?_update_seq ho fun _=>#[]⟩
 refine wpAny_bind (seqEpoch_at g1 rfl (wpAny_bind (wpAny_newTuple (wpAny_bind (wpAny_newList (wpAny_holding ?_))))))
 have g2:(midHeap s.heap a vs).get? a=some (seqObj "list" #[] e1):=by
  unfold midHeap
  rw [Heap.get?_push_ne _ _ _ (by rw [size_push',Heap.size_update]; exact neA ha (Nat.le_succ _)),Heap.get?_push_ne _ _ _ (by rw [Heap.size_update]; exact neA ha (Nat.le_refl _))]
  exact g1
 change wpAny (model prog w) A _ P E { s with heap:=midHeap s.heap a vs }
 have out:∀ xs:Array Keyed,xs.toList.Perm (vs.zip vs)→(xs.map (·.2)).size≤sizeLine+1:=fun xs hx=>by
  have:=hx.length_eq
  rw [Array.size_map,← Array.length_toList,this,List.length_zip]; omega
 by_cases c:vs.toArray.size < 2
 · rw [if_pos c,if_pos c]
   refine wpAny_bind (wpAny_pure ?_)
   dsimp only
   rw [StateT.run_pure]
   refine wpAny_bind (wpAny_pure ?_)
   dsimp only
   have hp:(vs.toArray.zip vs.toArray).toList.Perm (vs.zip vs):=by rw [← pairsOf_toList]; exact .refl _
   refine wpAny_bind (seqEpoch_at g2 rfl (wpAny_bind (listUpdate_at g2 rfl ?_ (Nat.zero_le _) (out _ hp))))
   simp only [bne_self_eq_false,Bool.false_eq_true,if_false]
   refine wpAny_pure (h _ hp ?_)
   have hl:=hp.length_eq
   rw [List.length_zip] at hl
   match (vs.toArray.zip vs.toArray).toList,hl with
   | [],_=>exact .nil
   | [x],_=>exact List.pairwise_singleton _ _
   | _ :: _ :: _,hl=>rw [List.length_cons,List.length_cons] at hl; omega
 · rw [if_neg c,if_neg c]
   refine wpAny_bind (hK (by omega) _ ?_)
   refine wpAny_bind (wpAny_mono (wpS_sortRunsS (s:={ s with heap:=midHeap s.heap a vs }) hO (a₀:=pairsOf vs) (st:=SortSt.mk' oneType' (vs.toArray.zip vs.toArray) #[] 7 none)
    (Q:=fun _ st'=>(arrOf st').toList.Perm (vs.zip vs)∧failedOf st'=none∧(arrOf st').toList.Pairwise (Srt.le κ)) h0 (.refl _) rfl rfl rfl fun st' b1 b2 b3=>⟨by rw [← pairsOf_toList]; exact b1,b2,b3⟩) ?_ fun _ _ e=>e)
   rintro ⟨⟨⟩,st'⟩ s' ⟨rfl,hp,hf,hs⟩
   dsimp only
   refine wpAny_bind (seqEpoch_at g2 rfl (wpAny_bind (listUpdate_at g2 rfl ?_ (Nat.zero_le _) (out _ hp))))
   rw [hf]
   simp only [bne_self_eq_false,Bool.false_eq_true,if_false]
   exact wpAny_pure (h _ hp hs)
def preHeap (h:Heap) (vs:List Value):Heap:=((h.push (seqObj "list" #[] 0)).update h.objs.size (Obj.mapSeq (· ++ vs.toArray))).push (seqObj "list" vs.toArray 0)
theorem preHeap_old {h:Heap} {b:Addr} {vs:List Value} {o:Obj} (hb:h.get? b=some o):(preHeap h vs).get? b=some o:=by
 have hlt:=Heap.lt_size hb
 unfold preHeap
 rw [Heap.get?_push_ne _ _ _ (by rw [Heap.size_update,size_push']; exact neA hlt (Nat.le_succ _)),Heap.get?_update_ne _ _ _ _ (neA hlt (Nat.le_refl _)),Heap.get?_push_ne _ _ _ (neA hlt (Nat.le_refl _))]
 exact hb
theorem sorted_call {l:Addr} {vs:List Value} {Q:Value→Shared→Prop} (hl:s.heap.IsList l vs.toArray) (h0:KeysOf κ (pairsOf vs)) (hz:vs.length≤1000)
 (hK:∀ A' s',(∀ b o,s.heap.get? b=some o→s'.heap.get? b=some o)→∀ Q:SortKind→Shared→Prop,Q oneType' s'→2≤vs.length→wpAny (model prog w) A' (keyKind' vs.toArray) Q E s')
 (hO:∀ A' s',A'.units=A.units+2→(∀ b o,s.heap.get? b=some o→s'.heap.get? b=some o)→OneLtAt κ prog w A' s')
 (h:∀ xs:Array Keyed,xs.toList.Perm (vs.zip vs)→xs.toList.Pairwise (Srt.le κ)→Q (.ref (s.heap.objs.size+1)) { s with heap:=sortedAll s.heap vs (xs.map (·.2)) }):wpAny (model prog w) A (call (.builtin "sorted") [.ref l]) Q E s:=by
 have hline:(1000:Nat)≤sizeLine:=by rw [sizeLine_eq]; omega
 refine Calls.call_function_entry kind_sorted plain_sorted entry_sorted (args_sorted1 _) ?_
 unfold Builtin.«sorted»
 refine wpAny_bind (m:=checkCount "sorted" 1 1 _) (wpAny_pure (wpAny_bind (collect_list hl (wpAny_bind (wpAny_newList ?_)) (by omega))))
 have es:((s.heap.push (seqObj "list" #[] 0)).update s.heap.objs.size (Obj.mapSeq (· ++ vs.toArray))).objs.size=s.heap.objs.size+1:=by rw [Heap.size_update,size_push']
 have ho:(preHeap s.heap vs).get? (s.heap.objs.size+1)=some (seqObj "list" vs.toArray 0):=by
  unfold preHeap; rw [← es]; exact Heap.get?_push_size _ rfl
 change wpAny (model prog w) A.in1 _ _ E { s with heap:=preHeap s.heap vs }
 rw [es]
 have old:∀ b o,s.heap.get? b=some o→(midHeap (preHeap s.heap vs) (s.heap.objs.size+1) vs).get? b=some o:=fun b o hb=>midHeap_old (preHeap_old hb) (neA (Heap.lt_size hb) (Nat.le_succ _))
 refine wpAny_bind (wpAny_holding (wpAny_call_entry slot_list_sort ⟨_,ho,rfl⟩ entry_list_sort (sort_call (κ:=κ) ho h0 hz (fun h2 Q hQ=>hK _ _ old Q hQ h2) (hO _ _ rfl old) fun xs b1 b2=>⟨_,rfl,?_⟩) (args_list_sort _)))
 exact wpAny_pure ⟨_,rfl,h xs b1 b2⟩
end
end Srt
namespace Srt
open PySem PyProof.Rows L2
def kI:KeyKind where
 α:=Int
 blt:=fun a b=>decide (a < b)
 irrefl:=fun a=>by simp
 trans:=fun a b c h1 h2=>by simp at *; omega
 negTrans:=fun a b c h=>by simp at *; omega
 total:=fun a b h1 h2=>by simp at *; omega
 keyOf:=fun v=>match v with
  | .int n _=>some n
  | _=>none
 dflt:=0
theorem kI_one {prog:Program} {w:World} {A:Around} {s:Shared}:OneLtAt kI prog w A s:=by
 intro E x y a b Q hx hy hq
 cases x <;> cases hx
 cases y <;> cases hy
 exact oneLt_int hq
theorem lex_irr:∀ a:List Int,HT.lexLt a a=false
 | []=>rfl
 | x :: a=>by rw [HT.lexLt_cons,if_pos rfl]; exact lex_irr a
theorem lex_tr:∀ a b c:List Int,HT.lexLt a b=true→HT.lexLt b c=true→HT.lexLt a c=true
 | [],[],_,h,_=>by cases h
 | [],_ :: _,[],_,h=>by cases h
 | [],_ :: _,_ :: _,_,_=>rfl
 | _ :: _,[],_,h,_=>by cases h
 | _ :: _,_ :: _,[],_,h=>by cases h
 | x :: a,y :: b,z :: c,h1,h2=>by
  rw [HT.lexLt_cons] at h1 h2 ⊢
  by_cases e1:x=y
  · subst e1
    rw [if_pos rfl] at h1
    by_cases e2:x=z
    · subst e2
      rw [if_pos rfl] at h2 ⊢
      exact lex_tr a b c h1 h2
    · rw [if_neg e2] at h2 ⊢; exact h2
  · rw [if_neg e1] at h1
    have h1:=of_decide_eq_true h1
    by_cases e2:y=z
    · subst e2
      rw [if_neg e1]; exact decide_eq_true h1
    · rw [if_neg e2] at h2
      have h2:=of_decide_eq_true h2
      rw [if_neg (by omega)]; exact decide_eq_true (by omega)
theorem lex_neg:∀ a b c:List Int,HT.lexLt a c=true→HT.lexLt a b=true∨HT.lexLt b c=true
 | [],[],_,h=>.inr h
 | [],_ :: _,_,_=>.inl rfl
 | _ :: _,_,[],h=>by cases h
 | _ :: _,[],_ :: _,_=>.inr rfl
 | x :: a,y :: b,z :: c,h=>by
  rw [HT.lexLt_cons] at h ⊢
  rw [HT.lexLt_cons]
  by_cases e1:x=y
  · subst e1
    rw [if_pos rfl]
    by_cases e2:x=z
    · subst e2
      rw [if_pos rfl] at h ⊢
      exact lex_neg a b c h
    · rw [if_neg e2] at h ⊢; exact .inr h
  · rw [if_neg e1]
    by_cases e2:y=z
    · subst e2
      rw [if_neg e1] at h; exact .inl h
    · rw [if_neg e2]
      by_cases e3:x=z
      · subst e3
        have:x < y∨y < x:=by omega
        rcases this with h | h
        · exact .inl (decide_eq_true h)
        · exact .inr (decide_eq_true h)
      · rw [if_neg e3] at h
        have h:=of_decide_eq_true h
        have:x < y∨y < z:=by omega
        rcases this with h | h
        · exact .inl (decide_eq_true h)
        · exact .inr (decide_eq_true h)
theorem lex_tot:∀ a b:List Int,HT.lexLt a b=false→HT.lexLt b a=false→a=b
 | [],[],_,_=>rfl
 | [],_ :: _,h,_=>by cases h
 | _ :: _,[],_,h=>by cases h
 | x :: a,y :: b,h1,h2=>by
  rw [HT.lexLt_cons] at h1 h2
  by_cases e:x=y
  · subst e
    rw [if_pos rfl] at h1 h2
    rw [lex_tot a b h1 h2]
  · rw [if_neg e] at h1
    rw [if_neg (Ne.symm e)] at h2
    have h1:=of_decide_eq_false h1
    have h2:=of_decide_eq_false h2
    omega
def kL (f:Value→Option (List Int)):KeyKind where
 α:=List Int
 blt:=HT.lexLt
 irrefl:=lex_irr
 trans:=lex_tr
 negTrans:=lex_neg
 total:=lex_tot
 keyOf:=f
 dflt:=[]
open PySem.AutoSeq1 (wpAny_loadPart')
open PySem.MeetsSeq PySem.MeetsSeq2 PySem.MeetsSeq3 PySem.SeqAt
theorem ints_at {us:List Value} {ns:List Int} (h:IntsAre us ns) {i:Nat} (hi:i < us.length):∃ (h2:i < ns.length) (t:Tok),us[i]=.int ns[i] t:=by
 induction h generalizing i with
 | nil=>cases hi
 | cons n t h ih =>
  cases i with
  | zero=>exact ⟨Nat.succ_pos _,t,rfl⟩
  | succ i =>
   obtain ⟨h2,t,e⟩:=ih (i:=i) (Nat.lt_of_succ_lt_succ hi)
   exact ⟨Nat.succ_lt_succ h2,t,e⟩
theorem lt_loop (l b:Addr) (items items2:Array Value) (n n2:Nat) (dd dd2:Option Addr) (sl sl2:Array (Option Value)) (ns ms:List Int) (hi:IntsAre items.toList ns) (hj:IntsAre items2.toList ms) (k:Nat) :
 ∀ i:Nat,items.size - i=k→i≤items.size→i≤items2.size→Meets (Builtin.«list.__eq__.loop» ⟨[.ref l,.ref b,rawInt i,rawInt 0],[]⟩)
  (fun A R s=>s.heap.get? l=some { cls:=.type "list",dict:=dd,data:=.seq items n,slots:=sl }∧s.heap.get? b=some { cls:=.type "list",dict:=dd2,data:=.seq items2 n2,slots:=sl2 }∧R (.ok (.ret (.bool (HT.lexLt (ns.drop i) (ms.drop i))))) s):=by
 have z1:items.size=ns.length:=by rw [← hi.length,Array.length_toList]
 have z2:items2.size=ms.length:=by rw [← hj.length,Array.length_toList]
 induction k with
 | zero =>
  intro i hk k1 k2 prog w A R s h
  obtain ⟨hp,g,d,tk,os⟩:=s; obtain ⟨hl,hb,h⟩:=h
  wp_walk using wpAny_loadPart' hl,wpAny_loadPart' hb
  have hi1:items[((i:Nat):Int).toNat]?=none:=by simp; omega
  rw [hi1]
  wp_walk using wpAny_loadPart' hl,wpAny_loadPart' hb
  show R (.ok (.ret (.bool (decide (items.size < items2.size))))) _
  have e:HT.lexLt (ns.drop i) (ms.drop i)=decide (items.size < items2.size):=by
   rw [List.drop_of_length_le (by omega:ns.length≤i)]
   by_cases c:i < ms.length
   · rw [List.drop_eq_getElem_cons c,HT.lexLt_nil_cons]; exact (decide_eq_true (by omega)).symm
   · rw [List.drop_of_length_le (by omega),HT.lexLt_nil_nil]; exact (decide_eq_false (by omega)).symm
  rw [← e]; exact h
 | succ k ih =>
  intro i hk k1 k2 prog w A R s h
  obtain ⟨hp,g,d,tk,os⟩:=s; obtain ⟨hl,hb,h⟩:=h
  wp_walk using wpAny_loadPart' hl,wpAny_loadPart' hb
  have hlt:i < items.size:=by omega
  have hi1:items[((i:Nat):Int).toNat]?=some items[i]:=by simp [hlt]
  rw [hi1]
  by_cases c:i < items2.size
  · have hi2:items2[((i:Nat):Int).toNat]?=some items2[i]:=by simp [c]
    rw [hi2]
    obtain ⟨m1,t1,e1⟩:=ints_at hi (i:=i) (by rw [Array.length_toList]; exact hlt)
    obtain ⟨m2,t2,e2⟩:=ints_at hj (i:=i) (by rw [Array.length_toList]; exact c)
    rw [Array.getElem_toList] at e1 e2
    rw [List.drop_eq_getElem_cons m1,List.drop_eq_getElem_cons m2,HT.lexLt_cons] at h
    obtain ⟨e,he,hiff⟩:=HT.eqAt_int A.in1 ⟨hp,g,d,tk,os⟩ ns[i] t1 ms[i] t2
    rw [e1,e2]
    refine wpAny_bind (he prog w _ _ ?_)
    cases e with
    | true =>
     rw [if_pos (hiff.mp rfl)] at h
     wp_walk
     rw [show ((i:Int)+1)=((i+1:Nat):Int) by push_cast; rfl]
     exact ⟨plainId_quiet plain_eq_loop _,codeAny_builtin entry_eq_loop (by
      rw [Around.under_plainId plain_eq_loop _]
      exact ih (i+1) (by omega) hlt c prog w A R _ ⟨hl,hb,h⟩)⟩
    | false =>
     rw [if_neg (fun q=>absurd (hiff.mpr q) Bool.false_ne_true)] at h
     have hri:=HT.rcLt_int A.in1 ⟨hp,g,d,tk,os⟩ ns[i] t1 ms[i] t2 prog w
     wp_walk using wpAny_loadPart' hl,wpAny_loadPart' hb
     rw [hi1,hi2,e1,e2]
     wp_walk using hri
     exact h
  · have hi2:items2[((i:Nat):Int).toNat]?=none:=by simp; omega
    rw [hi2]
    wp_walk using wpAny_loadPart' hl,wpAny_loadPart' hb
    show R (.ok (.ret (.bool (decide (items.size < items2.size))))) _
    have e:HT.lexLt (ns.drop i) (ms.drop i)=decide (items.size < items2.size):=by
     rw [List.drop_eq_getElem_cons (by omega:i < ns.length),List.drop_of_length_le (by omega:ms.length≤i),HT.lexLt_cons_nil]
     exact (decide_eq_false (by omega)).symm
    rw [← e]; exact h
end Srt
namespace Srt
open PySem PyProof.Rows L2
open PySem.AutoSeq1 (wpAny_loadPart')
open PySem.MeetsSeq PySem.MeetsSeq2 PySem.MeetsSeq3 PySem.SeqAt
theorem list_lt_ints (l b:Addr) (items items2:Array Value) (n n2:Nat) (ns ms:List Int) (hi:IntsAre items.toList ns) (hj:IntsAre items2.toList ms) :
 Meets (Builtin.«list.__lt__» ⟨[.ref l,.ref b],[]⟩) (fun A R s=>s.heap.get? l=some { cls:=.type "list",data:=.seq items n }∧s.heap.get? b=some { cls:=.type "list",data:=.seq items2 n2 }∧R (.ok (.ret (.bool (HT.lexLt ns ms)))) s):=by
 intro prog w A R s h
 obtain ⟨hp,g,d,tk,os⟩:=s; obtain ⟨hl,hb,h⟩:=h
 have f3:=AutoSeq1.sub_list_list
 wp_walk using wpAny_loadPart' hl,wpAny_loadPart' hb
 exact ⟨plainId_quiet plain_eq_loop _,codeAny_builtin entry_eq_loop (by
  rw [Around.under_plainId plain_eq_loop _]
  exact lt_loop l b items items2 n n2 none none #[] #[] ns ms hi hj _ 0 rfl (Nat.zero_le _) (Nat.zero_le _) prog w A R _ ⟨hl,hb,h⟩)⟩
section
variable {prog:Program} {w:World} {A:Around} {E:Value→Shared→Prop} {s:Shared}
theorem kL_one {f:Value→Option (List Int)} (hu:A.units < cLine)
 (hf:∀ v ns,f v=some ns→∃ (a:Addr) (its:List Value) (n:Nat),v=.ref a∧s.heap.get? a=some { cls:=.type "list",data:=.seq its.toArray n }∧IntsAre its ns):OneLtAt (kL f) prog w A s:=by
 intro E x y a b Q hx hy hq
 obtain ⟨p,us,n,rfl,hp,iu⟩:=hf x a hx
 obtain ⟨q,vs,m,rfl,hq2,iv⟩:=hf y b hy
 rw [oneLt'_eq]
 simp only [if_true]
 refine wpAny_bind (wpAny_cRoomFor hu ?_)
 refine wpAny_bind (wpAny_callSpecialIfBound?_slot (T:="list") ⟨_,hp,rfl⟩ F.slot_list_lt (call_meets F.slot_list_lt ⟨_,hp,rfl⟩ F.entry_list_lt (F.args_list_lt_2 _ _) (list_lt_ints p q us.toArray vs.toArray n m a b iu iv) ⟨hp,hq2,?_⟩))
 exact wpAny_truthy_bool hq
theorem wp_mapM {α:Type} {f:Value→Sem α} {r:Value→α}:∀ {vs:List Value} {Q:List α→Shared→Prop},(∀ v∈vs,∀ Q':α→Shared→Prop,Q' (r v) s→wpAny (model prog w) A (f v) Q' E s)→Q (vs.map r) s→wpAny (model prog w) A (vs.mapM f) Q E s
 | [],Q,_,h=>by rw [List.mapM_nil]; exact wpAny_pure h
 | v :: vs,Q,hf,h=>by
  rw [List.mapM_cons]
  refine wpAny_bind (hf v (List.mem_cons_self ..) _ ?_)
  refine wpAny_bind (wp_mapM (fun u hu=>hf u (List.mem_cons_of_mem _ hu)) ?_)
  exact wpAny_pure h
theorem first_list {v:Value} {Q:Option Value→Shared→Prop} (ht:s.TypeIs v "list") (h:Q none s):wpAny (model prog w) A (firstOfTuple' v) Q E s:=by
 unfold firstOfTuple'
 refine wpAny_bind (wpAny_typeOf ht ?_)
 exact wpAny_pure h
theorem keyKind_lists {vs:List Value} (h2:2≤vs.length) (ht:∀ v∈vs,s.TypeIs v "list") {Q:SortKind→Shared→Prop} (h:Q oneType' s):wpAny (model prog w) A (keyKind' vs.toArray) Q E s:=by
 obtain ⟨v1,rest,rfl⟩:∃ v1 rest,vs=v1 :: rest:=by
  cases vs with
  | nil=>cases h2
  | cons a b=>exact ⟨a,b,rfl⟩
 rw [keyKind'_eq,List.mapM_toArray]
 simp only [map_eq_pure_bind,bind_assoc,pure_bind]
 refine wpAny_bind (wp_mapM (r:=fun _=>none) (fun v hv Q' hq=>first_list (ht v hv) hq) ?_)
 rw [if_neg (by simp),if_neg (by simp)]
 rw [oneTypeOnly'_eq,List.mapM_toArray]
 simp only [map_eq_pure_bind,bind_assoc,pure_bind]
 refine wpAny_bind (wp_mapM (r:=fun _=>Value.type "list") (fun v hv Q' hq=>wpAny_typeOf (ht v hv) hq) ?_)
 have h0:(List.map (fun _=>Value.type "list") (v1 :: rest)).toArray[0]?=some (Value.type "list"):=by simp
 have ha:((List.map (fun _=>Value.type "list") (v1 :: rest)).toArray.all fun x=>x == Value.type "list")=true:=by
  simp only [List.all_toArray,List.all_map,List.all_eq_true]
  intro _ _; rfl
 rw [h0]
 simp only [ha,if_true,pure_bind,Option.isSome_some]
 exact wpAny_pure h
end
theorem pairs_self {xs:Array Keyed} {vs:List Value} (h:xs.toList.Perm (vs.zip vs)):(xs.map (·.2)).toList.Perm vs∧xs.toList=(xs.map (·.2)).toList.map fun u=>(u,u):=by
 rw [Array.toList_map]
 constructor
 · have:=h.map Prod.snd
   rw [List.map_snd_zip (Nat.le_refl _)] at this
   exact this
 · rw [List.map_map]
   have e:∀ p∈xs.toList,((fun u=>(u,u)) ∘ fun x:Keyed=>x.2) p=p:=fun p hp=>by
    have h2:=h.mem_iff.mp hp
    have h3:p.1=p.2:=by
     rw [List.zip_eq_zipWith] at h2
     obtain ⟨i,hi,e⟩:=List.getElem_of_mem h2
     rw [List.getElem_zipWith] at e
     rw [← e]
    exact Prod.ext h3.symm rfl
   exact ((List.map_congr_left e).trans (List.map_id _)).symm
theorem paired_perm {as:List V} {us us':List Value} (h:Vals as us) (hp:us.Perm us'):∃ as',as.Perm as'∧Vals as' us':=by
 induction hp generalizing as with
 | nil=>exact ⟨as,.refl _,h⟩
 | cons x _ ih =>
  cases h with
  | cons r t =>
   obtain ⟨as',p,v⟩:=ih t
   exact ⟨_,p.cons _,.cons r v⟩
 | swap x y l =>
  cases h with
  | cons r t =>
   cases t with
   | cons r2 t=>exact ⟨_,List.Perm.swap ..,.cons r2 (.cons r t)⟩
 | trans _ _ ih1 ih2 =>
  obtain ⟨as',p,v⟩:=ih1 h
  obtain ⟨as2,p2,v2⟩:=ih2 v
  exact ⟨as2,p.trans p2,v2⟩
theorem perm_map_inv {α β:Type} {f:α→β} {g:β→α} (hg:∀ x,g (f x)=x) {l:List β} {m:List α} (h:l.Perm (m.map f)):l=(l.map g).map f∧(l.map g).Perm m:=by
 constructor
 · rw [List.map_map]
   have e:∀ y∈l,(f ∘ g) y=y:=fun y hy=>by
    obtain ⟨x,_,rfl⟩:=List.mem_map.mp (h.mem_iff.mp hy)
    show f (g (f x))=f x
    rw [hg]
   exact ((List.map_congr_left e).trans (List.map_id _)).symm
 · have:=h.map g
   rw [List.map_map] at this
   have e:(m.map (g ∘ f))=m:=by
    have:∀ y∈m,(g ∘ f) y=y:=fun y _=>hg y
    exact (List.map_congr_left this).trans (List.map_id _)
   rwa [e] at this
theorem paired_pw {P:Value→Value→Prop} {P':V→V→Prop} (hh:∀ a b u v,RelV a u→RelV b v→P u v→P' a b):∀ {as:List V} {us:List Value},Vals as us→us.Pairwise P→as.Pairwise P'
 | _,_,.nil,_=>.nil
 | _,_,.cons r t,h=>by
  rw [List.pairwise_cons] at h
  refine List.Pairwise.cons (fun b hb=>?_) (paired_pw hh t h.2)
  obtain ⟨i,hi,rfl⟩:=List.getElem_of_mem hb
  obtain ⟨v,e1,e2⟩:=Vals.get t (List.getElem?_eq_getElem hi)
  exact hh _ _ _ _ r e2 (h.1 v (List.mem_of_getElem? e1))
def intOf:V→Int
 | .int i=>i
 | _=>0
def refOf:V→Addr
 | .ref a=>a
 | _=>0
theorem vals_mem {as:List V} {us:List Value} (h:Vals as us) {u:Value} (hu:u∈us):∃ a∈as,RelV a u:=by
 induction h with
 | nil=>cases hu
 | cons r t ih =>
  rcases List.mem_cons.mp hu with rfl | hu
  · exact ⟨_,List.mem_cons_self ..,r⟩
  · obtain ⟨a,ha,ra⟩:=ih hu
    exact ⟨a,List.mem_cons_of_mem _ ha,ra⟩
section
variable {X:Cx}
theorem call_sortedN:CallR X (.builtin "sorted") (fun xs H Q=>∃ (p:Addr) (ns:List Int),xs=[.ref p]∧SqL X.K H p (ns.map V.int)∧ns.length≤1000∧∀ (l:Addr) (ns':List Int),H l=none→ns'.Perm ns→ns'.Pairwise (· ≤ ·)→Q (.ref l) (upd H l (.lst (ns'.map V.int)))):=by
 intro pins s σ H xs us Q I r h
 obtain ⟨p,ns,rfl,hq,hz,q⟩:=h
 obtain ⟨u,rfl,ru⟩:=vals1 r
 cases ru
 obtain ⟨its,rv,pl,hz2⟩:=I.list hq
 have hl:=rv.length
 rw [List.length_map] at hl
 have ha:IntsAre its ns:=rv.intsAre
 refine sorted_call (κ:=kI) pl.isList (fun p hp=>?_) (by omega) (fun A' s' _ Q' hq h2=>?_) (fun A' s' _ _=>kI_one) fun ks hp hs=>?_
 · rw [pairsOf_toList] at hp
   obtain ⟨n,t,e⟩:=ha.intKeys p (by rw [pairsOf_toList]; exact hp)
   exact ⟨n,by rw [e]; rfl⟩
 · match its,ha,h2 with
   | v1 :: v2 :: rest,ha,_=>rw [keyKind_ints ha]; exact wpAny_pure hq
   | [_],_,h2=>exact absurd h2 (by rw [List.length_singleton]; omega)
   | [],_,h2=>exact absurd h2 (by rw [List.length_nil]; omega)
 · obtain ⟨p1,p2⟩:=pairs_self hp
   obtain ⟨as',q1,q2⟩:=paired_perm rv p1.symm
   obtain ⟨m1,m2⟩:=perm_map_inv (f:=V.int) (g:=intOf) (fun _=>rfl) q1.symm
   obtain ⟨e,he⟩:=sortedAll_at s.heap its (ks.map (·.2))
   have l2:=m2.length_eq
   have hle:s.heap.objs.size≤s.heap.objs.size+1:=Nat.le_succ _
   rw [p2,List.pairwise_map] at hs
   have hs2:as'.Pairwise (fun a b=>intOf a≤intOf b):=by
    refine paired_pw (P:=fun u v=>u∈(ks.map (·.2)).toList∧v∈(ks.map (·.2)).toList∧Srt.le kI (u,u) (v,v)) (fun a b u v ra rb h=>?_) q2 ?_
    · obtain ⟨hu,hv,hle⟩:=h
      obtain ⟨a',ha',ra'⟩:=vals_mem rv (p1.mem_iff.mp hu)
      obtain ⟨b',hb',rb'⟩:=vals_mem rv (p1.mem_iff.mp hv)
      obtain ⟨n,_,rfl⟩:=List.mem_map.mp ha'
      obtain ⟨m,_,rfl⟩:=List.mem_map.mp hb'
      obtain ⟨t,rfl⟩:=ra'
      obtain ⟨t',rfl⟩:=rb'
      have:decide (m < n)=false:=hle
      have:=of_decide_eq_false this
      cases a <;> first | (obtain ⟨_,e1⟩:=ra; cases e1) | cases ra
      cases b <;> first | (obtain ⟨_,e1⟩:=rb; cases e1) | cases rb
      exact Int.not_lt.mp this
    · refine List.Pairwise.imp_of_mem (fun hu hv h=>⟨hu,hv,h⟩) hs
   refine ⟨.ref (s.heap.objs.size+1),_,I.laid (t':=s.toks) (o:=.lst ((as'.map intOf).map V.int)) (fun b o=>sortedAll_old) hle ⟨by rw [← m1,q1.symm.length_eq,List.length_map]; exact small_le (by omega),(ks.map (·.2)).toList,e,by rw [← m1]; exact q2,?_⟩,rfl,q _ (as'.map intOf) (I.hok.fresh hle) m2 (by rw [List.pairwise_map]; exact hs2)⟩
   rw [Array.toArray_toList]
   exact he
theorem call_sortedL (hu:X.A.units+2 < cLine):CallR X (.builtin "sorted") (fun xs H Q=>∃ (p:Addr) (ps:List Addr) (g:Addr→List Int),xs=[.ref p]∧SqL X.K H p (ps.map V.ref)∧ps.length≤1000∧(∀ a∈ps,H a=some (.lst ((g a).map V.int))) ∧
 ∀ (l:Addr) (ps':List Addr),H l=none→ps'.Perm ps→ps'.Pairwise (fun a b=>HT.lexLt (g b) (g a)=false)→Q (.ref l) (upd H l (.lst (ps'.map V.ref)))):=by
 intro pins s σ H xs us Q I r h
 obtain ⟨p,ps,g,rfl,hq,hz,hg,q⟩:=h
 obtain ⟨u,rfl,ru⟩:=vals1 r
 cases ru
 obtain ⟨its,rv,pl,hz2⟩:=I.list hq
 have hl:=rv.length
 rw [List.length_map] at hl
 let f:Value→Option (List Int):=fun v=>match v with
  | .ref a=>if a∈ps then some (g a) else none
  | _=>none
 have hf:∀ s':Shared,(∀ b o,s.heap.get? b=some o→s'.heap.get? b=some o)→∀ v ns,f v=some ns→∃ (a:Addr) (its:List Value) (n:Nat),v=.ref a∧s'.heap.get? a=some { cls:=.type "list",data:=.seq its.toArray n }∧IntsAre its ns:=by
  intro s' hk v ns hv
  cases v with
  | ref a =>
   by_cases c:a∈ps
   · have hv:(if a∈ps then some (g a) else none)=some ns:=hv
     rw [if_pos c] at hv
     cases hv
     obtain ⟨z,ls,n,r,_,e⟩:=I.lstM (hg a c)
     exact ⟨a,ls,n,rfl,hk _ _ e,r.intsAre⟩
   · have hv:(if a∈ps then some (g a) else none)=some ns:=hv
     rw [if_neg c] at hv
     cases hv
  | _=>cases hv
 have mem:∀ v∈its,∃ a∈ps,v=.ref a:=fun v hv=>by
  obtain ⟨a',ha',ra'⟩:=vals_mem rv hv
  obtain ⟨a,ha,rfl⟩:=List.mem_map.mp ha'
  exact ⟨a,ha,ra'⟩
 have key:∀ a∈ps,f (.ref a)=some (g a):=fun a ha=>by
  show (if a∈ps then some (g a) else none)=_
  rw [if_pos ha]
 refine sorted_call (κ:=kL f) pl.isList (fun p hp=>?_) (by omega) (fun A' s' hk Q' hq h2=>?_) (fun A' s' ha hk=>kL_one (by omega) (hf s' hk)) fun ks hp hs=>?_
 · rw [pairsOf_toList] at hp
   obtain ⟨a,ha,e⟩:=mem p.1 (by
    have:=List.of_mem_zip (a:=p.1) (b:=p.2) hp
    exact this.1)
   exact ⟨g a,by rw [e]; exact key a ha⟩
 · refine keyKind_lists h2 (fun v hv=>?_) hq
   obtain ⟨a,ha,rfl⟩:=mem v hv
   obtain ⟨_,_,n,e0,e,_⟩:=hf s' hk (.ref a) (g a) (key a ha)
   cases e0
   exact ⟨_,e,rfl⟩
 · obtain ⟨p1,p2⟩:=pairs_self hp
   obtain ⟨as',q1,q2⟩:=paired_perm rv p1.symm
   obtain ⟨m1,m2⟩:=perm_map_inv (f:=V.ref) (g:=refOf) (fun _=>rfl) q1.symm
   obtain ⟨e,he⟩:=sortedAll_at s.heap its (ks.map (·.2))
   have l2:=m2.length_eq
   have hle:s.heap.objs.size≤s.heap.objs.size+1:=Nat.le_succ _
   rw [p2,List.pairwise_map] at hs
   have hs2:as'.Pairwise (fun a b=>HT.lexLt (g (refOf b)) (g (refOf a))=false):=by
    refine paired_pw (P:=fun u v=>u∈(ks.map (·.2)).toList∧v∈(ks.map (·.2)).toList∧Srt.le (kL f) (u,u) (v,v)) (fun a b u v ra rb h=>?_) q2 ?_
    · obtain ⟨hu,hv,hle⟩:=h
      obtain ⟨a',ha',rfl⟩:=mem u (p1.mem_iff.mp hu)
      obtain ⟨b',hb',rfl⟩:=mem v (p1.mem_iff.mp hv)
      have e1:kp (kL f) (.ref a',.ref a')=g a':=by
       show (f (.ref a')).getD _=_
       rw [key a' ha']; rfl
      have e2:kp (kL f) (.ref b',.ref b')=g b':=by
       show (f (.ref b')).getD _=_
       rw [key b' hb']; rfl
      have hle:HT.lexLt (kp (kL f) (.ref b',.ref b')) (kp (kL f) (.ref a',.ref a'))=false:=hle
      rw [e1,e2] at hle
      cases a <;> first | (obtain ⟨_,e1⟩:=ra; cases e1) | cases ra
      cases b <;> first | (obtain ⟨_,e1⟩:=rb; cases e1) | cases rb
      exact hle
    · refine List.Pairwise.imp_of_mem (fun hu hv h=>⟨hu,hv,h⟩) hs
   refine ⟨.ref (s.heap.objs.size+1),_,I.laid (t':=s.toks) (o:=.lst ((as'.map refOf).map V.ref)) (fun b o=>sortedAll_old) hle ⟨by rw [← m1,q1.symm.length_eq,List.length_map]; exact small_le (by omega),(ks.map (·.2)).toList,e,by rw [← m1]; exact q2,?_⟩,rfl,q _ (as'.map refOf) (I.hok.fresh hle) m2 (by rw [List.pairwise_map]; exact hs2)⟩
   rw [Array.toArray_toList]
   exact he
end
end Srt
namespace L2
open PySem PySem.Spec PyProof.Rows
section
variable {X:Cx}
def rIndexD (K:PySem.W.Frag):V→List V→Hp→VK→Prop:=fun x vs H Q=>∃ (l k:Addr) (ps:List Addr) (e:Addr→Bool) (j:Nat),x=.ref l∧vs=[.ref k]∧H l=some (.lst (ps.map V.ref))∧(∀ a∈ps,DEq K H 20 (.ref a) (.ref k) (e a))∧(∃ a,ps[j]?=some a∧e a=true)∧(∀ (i:Nat) (a:Addr),i < j→ps[i]?=some a→e a=false)∧Q (.int j) H
def eRef (e:Addr→Bool):Value→Bool
 | .ref a=>e a
 | _=>false
theorem mt_indexD (hu:X.A.units+64 < cLine):MtM X "list.index" (rIndexD X.K):=by
 intro pins s σ H x vs v us Q I rx rv h
 obtain ⟨l,k,ps,e,j,rfl,rfl,hH,hd,⟨a,ha,hae⟩,hno,q⟩:=h
 cases rx
 obtain ⟨u,rfl,ru⟩:=rv.one
 cases ru
 obtain ⟨z,its,n,r,hl,he⟩:=I.lstM hH
 have get:∀ (m:Nat) (hm:m < its.length),∃ b,ps[m]?=some b∧its[m]=Value.ref b:=fun m hm=>by
  have hmn:m < ps.length:=by rw [List.length_map] at hl; omega
  obtain ⟨w,e1,e2⟩:=Vals.get r (i:=m) (x:=.ref ps[m]) (by simp [hmn])
  obtain ⟨_,e4⟩:=List.getElem?_eq_some_iff.mp e1
  exact ⟨ps[m],List.getElem?_eq_getElem hmn,by rw [e4]; exact e2⟩
 have hjl:j < its.length:=by
  obtain ⟨b,_⟩:=List.getElem?_eq_some_iff.mp ha
  rw [List.length_map] at hl
  omega
 have hz2:=line63
 rw [List.length_map] at hl z
 refine call_meets F.slot_list_index ⟨_,he,rfl⟩ F.entry_list_index (F.args_list_index_2 _ _) (SeqAt.list_indexAt l its.toArray n none #[] (.ref k) (eRef e) j (by simpa using hjl) (by omega) ?_ ?_) ⟨he,fun y hy=>?_,?_⟩
 · obtain ⟨b,e1,e2⟩:=get j hjl
   rw [ha] at e1
   cases e1
   simp only [List.getElem_toArray]
   rw [e2]; exact hae
 · intro m hm hmj
   have hml:m < its.length:=by simpa using hm
   obtain ⟨b,e1,e2⟩:=get m hml
   simp only [List.getElem_toArray]
   rw [e2]; exact hno m b hmj e1
 · obtain ⟨b,hb,rb⟩:=Srt.vals_mem r (show y∈its by simpa using hy)
   obtain ⟨b',hb',rfl⟩:=List.mem_map.mp hb
   cases rb
   exact eqAt_D I (hd b' hb') rfl rfl (by rw [in1_units]; omega)
 · exact ⟨.int _,H,I.tok _,⟨_,rfl⟩,q⟩
theorem DEq.nats {K:PySem.W.Frag} {H:Hp} {a b:Addr} {xs ys:List Nat} (ha:H a=some (.lst (nats xs))) (hb:H b=some (.lst (nats ys))) (hl:xs.length=ys.length):DEq K H 20 (.ref a) (.ref b) (decide (xs=ys)):=by
 by_cases c:a=b
 · subst c
   rw [ha] at hb
   have h1:L2.nats xs=L2.nats ys:=by
    have:=Option.some.inj hb
    injection this
   have e:xs=ys:=by
    unfold L2.nats at h1
    exact (List.map_inj_right (fun x y z=>by injection z with z; omega)).mp h1
   rw [decide_eq_true e]; exact .same
 · have e:decide (xs=ys)=(List.range (L2.nats xs).length).all (fun j=>decide (xs[j]?=ys[j]?)):=by
    rw [Bool.eq_iff_iff,decide_eq_true_eq,List.all_eq_true]
    constructor
    · intro h j _; rw [h]; simp
    · intro h
      refine List.ext_getElem? fun j=>?_
      by_cases hj:j < xs.length
      · exact of_decide_eq_true (h j (List.mem_range.mpr (by simpa [L2.nats] using hj)))
      · rw [List.getElem?_eq_none (by omega),List.getElem?_eq_none (by omega)]
   rw [e]
   refine .lsts c (SqL.of ha) (SqL.of hb) (by simp [L2.nats,hl]) fun j x y hx hy=>?_
   unfold L2.nats at hx hy
   rw [List.getElem?_map] at hx hy
   cases h1:xs[j]? with
   | none=>rw [h1] at hx; cases hx
   | some p =>
    cases h2:ys[j]? with
    | none=>rw [h2] at hy; cases hy
    | some q =>
     rw [h1] at hx
     rw [h2] at hy
     cases hx; cases hy
     have:decide (some p=some q)=eqV (.int (p:Nat)) (.int (q:Nat)):=by
      by_cases hpq:p=q
      · subst hpq; simp [eqV]
      · have:¬ ((p:Int)=(q:Int)):=by omega
        simp [eqV,hpq,this]
     rw [this]
     exact .flat rfl rfl
theorem DEq.pair2 {K:PySem.W.Frag} {H:Hp} {a b:Addr} {x y:Int} (ha:H a=some (.tup [.int x,.int y])) (hb:H b=some (.tup [.int x,.int y])):DEq K H 20 (.ref a) (.ref b) true:=by
 by_cases c:a=b
 · subst c; exact .same
 · have e:(true:Bool)=((List.range (min ([V.int x,V.int y]:List V).length ([V.int x,V.int y]:List V).length)).all (fun _=>true) && ([V.int x,V.int y]:List V).length == ([V.int x,V.int y]:List V).length):=by rfl
   rw [e]
   refine .tups c (SqT.of ha) (SqT.of hb) fun j u v hu hv=>?_
   rw [hu] at hv
   cases hv
   match j,hu with
   | 0,hu=>cases hu; have:(true:Bool)=eqV (.int x) (.int x):=by simp [eqV]
           rw [this]; exact .flat rfl rfl
   | 1,hu=>cases hu; have:(true:Bool)=eqV (.int y) (.int y):=by simp [eqV]
           rw [this]; exact .flat rfl rfl
   | j+2,hu=>cases hu
end
theorem hu2 {A:Around} {k:Nat} (hr:Room k A):A.units+2 < cLine:=Nat.lt_of_le_of_lt (Nat.add_le_add_left (by decide:2≤64) _) hr.units
end L2
namespace L2
open PySem PySem.Spec PyProof.Rows
end L2
local macro_rules | `(tactic| open_k with [$xs,*]) => `(tactic| ((try dsimp only [L2.tSeq, L2.tRet, L2.tRetN, L2.tAsg, L2.tIfS, L2.tDrop, L2.tNext, L2.tChain, L2.tC, L2.tVar, L2.tOp, L2.tUn, L2.tTest, L2.tB, L2.tAnd, L2.tOr, L2.tNot, L2.tAndV, L2.tOrV, L2.tNotV, L2.tIf, L2.tCall, L2.tCons, L2.tNil, L2.tCB, L2.tTup, L2.tLst, L2.tFld, L2.sFld, L2.tMeth, L2.tMake, L2.tBM, L2.tBM0, L2.tSl, L2.tPart, L2.tNoPart, L2.tYes, L2.tNever, L2.tBreak, L2.tCont, L2.gName, L2.gCons, L2.gNil, L2.gTup, L2.rI0, L2.rI, L2.rU, L2.rEq, L2.rNe, L2.iList, L2.iTup, L2.iRng1, L2.iRng2, L2.iEnum, L2.iZip, L2.tBlk, L2.tFor_eq, L2.cxOf_K, L2.nox_K, L2.wish_K, L2.block_K, L2.start, L2.blkStart, L2.V.int.injEq, L2.V.bl.injEq, L2.V.ref.injEq, L2.V.str.injEq, L2.V.ty.injEq, Option.some.injEq, Option.join_some, Option.join_none, List.cons.injEq, exists_eq_left', exists_eq_left, exists_and_left, exists_and_right, exists_eq', exists_eq, and_true, true_and, and_assoc, List.map_cons, List.map_nil, List.length_cons, List.length_nil, Nat.reduceAdd, Nat.reduceSub, Nat.sub_self, List.replicate_zero, List.replicate_succ, List.cons_append, List.nil_append, List.append_nil, List.getElem?_cons_zero, List.getElem?_cons_succ, List.set_cons_zero, List.set_cons_succ, Bool.not_eq_true, Bool.false_eq_true, if_true, if_false, $[$xs:term],*]); simp only [L2.tSeq, L2.tRet, L2.tRetN, L2.tAsg, L2.tIfS, L2.tDrop, L2.tNext, L2.tChain, L2.tC, L2.tVar, L2.tOp, L2.tUn, L2.tTest, L2.tB, L2.tAnd, L2.tOr, L2.tNot, L2.tAndV, L2.tOrV, L2.tNotV, L2.tIf, L2.tCall, L2.tCons, L2.tNil, L2.tCB, L2.tTup, L2.tLst, L2.tFld, L2.sFld, L2.tMeth, L2.tMake, L2.tBM, L2.tBM0, L2.tSl, L2.tPart, L2.tNoPart, L2.tYes, L2.tNever, L2.tBreak, L2.tCont, L2.gName, L2.gCons, L2.gNil, L2.gTup, L2.rI0, L2.rI, L2.rU, L2.rEq, L2.rNe, L2.iList, L2.iTup, L2.iRng1, L2.iRng2, L2.iEnum, L2.iZip, L2.tBlk, L2.tFor_eq, L2.cxOf_K, L2.nox_K, L2.wish_K, L2.block_K, L2.start, L2.blkStart, L2.V.int.injEq, L2.V.bl.injEq, L2.V.ref.injEq, L2.V.str.injEq, L2.V.ty.injEq, Option.some.injEq, Option.join_some, Option.join_none, List.cons.injEq, exists_eq_left', exists_eq_left, exists_and_left, exists_and_right, exists_eq', exists_eq, and_true, true_and, and_assoc, List.map_cons, List.map_nil, List.length_cons, List.length_nil, Nat.reduceAdd, Nat.reduceSub, Nat.sub_self, List.replicate_zero, List.replicate_succ, List.cons_append, List.nil_append, List.append_nil, List.getElem?_cons_zero, List.getElem?_cons_succ, List.set_cons_zero, List.set_cons_succ, Bool.not_eq_true, Bool.false_eq_true, if_true, if_false, $[$xs:term],*]))
namespace Mx
def sum:Nat→(Nat→Int)→Int
 | 0,_=>0
 | n+1,f=>sum n f+f n
theorem sum_congr {n:Nat} {f g:Nat→Int} (h:∀ i,i < n→f i=g i):sum n f=sum n g:=by
 induction n with
 | zero=>rfl
 | succ n ih =>
  show sum n f+f n=sum n g+g n
  rw [ih fun i hi=>h i (by omega),h n (by omega)]
theorem sum_lin (c d:Int) (n:Nat) (f g:Nat→Int):sum n (fun i=>c * f i+d * g i)=c * sum n f+d * sum n g:=by
 induction n with
 | zero=>simp [sum]
 | succ n ih =>
  show sum n _+(c * f n+d * g n)=c * (sum n f+f n)+d * (sum n g+g n)
  rw [ih,Int.mul_add,Int.mul_add]
  omega
theorem sum_zero {n:Nat} {f:Nat→Int} (h:∀ i,i < n→f i=0):sum n f=0:=by
 induction n with
 | zero=>rfl
 | succ n ih =>
  show sum n f+f n=0
  rw [ih fun i hi=>h i (by omega),h n (by omega)]
  rfl
theorem sum_one {n k:Nat} {f:Nat→Int} (hk:k < n) (h:∀ i,i < n→i ≠ k→f i=0):sum n f=f k:=by
 induction n with
 | zero=>omega
 | succ n ih =>
  show sum n f+f n=f k
  by_cases e:k=n
  · subst e
    rw [sum_zero fun i hi=>h i (by omega) (by omega)]
    omega
  · rw [ih (by omega) fun i hi=>h i (by omega),h n (by omega) (by omega)]
    omega
theorem sum_two {n k:Nat} {f:Nat→Int} (hk:k+1 < n) (h:∀ i,i < n→i ≠ k→i ≠ k+1→f i=0):sum n f=f k+f (k+1):=by
 induction n with
 | zero=>omega
 | succ n ih =>
  show sum n f+f n=_
  by_cases e:k+1=n
  · subst e
    rw [sum_one (k:=k) (by omega) fun i hi hne=>h i (by omega) hne (by omega)]
  · rw [ih (by omega) fun i hi=>h i (by omega),h n (by omega) (by omega) (by omega)]
    omega
abbrev Mat:=Nat→Nat→Int
def sg (i:Nat):Int:=if i % 2=0 then 1 else -1
def skip (i a:Nat):Nat:=if a < i then a else a+1
def back (i k:Nat):Nat:=if k < i then k else k - 1
def minor (i:Nat) (A:Mat):Mat:=fun a b=>A (skip i a) (b+1)
def det:Nat→Mat→Int
 | 0,_=>1
 | n+1,A=>sum (n+1) fun i=>sg i * A i 0 * det n (minor i A)
def setR (A:Mat) (k:Nat) (r:Nat→Int):Mat:=fun i j=>if i=k then r j else A i j
theorem sg_succ (i:Nat):sg (i+1) = - sg i:=by
 unfold sg
 split <;> split <;> omega
theorem skip_lt {n i a:Nat} (ha:a < n):skip i a < n+1:=by
 unfold skip
 split <;> omega
theorem det_congr:∀ {n:Nat} {A B:Mat},(∀ i j,i < n→j < n→A i j=B i j)→det n A=det n B
 | 0,_,_,_=>rfl
 | n+1,A,B,h=>by
  refine sum_congr fun i hi=>?_
  rw [h i 0 hi (by omega),det_congr (A:=minor i A) (B:=minor i B) fun a b ha hb=>h _ _ (skip_lt ha) (by omega)]
theorem minor_same (A:Mat) (k:Nat) (r:Nat→Int):minor k (setR A k r)=minor k A:=by
 funext a b
 have:skip k a ≠ k:=by unfold skip; split <;> omega
 simp [minor,setR,this]
theorem minor_ne (A:Mat) {i k:Nat} (h:i ≠ k) (r:Nat→Int):minor i (setR A k r)=setR (minor i A) (back i k) fun b=>r (b+1):=by
 funext a b
 have:skip i a=k↔a=back i k:=by unfold skip back; split <;> split <;> omega
 simp [minor,setR,this]
theorem back_lt {n i k:Nat} (h:i ≠ k) (hi:i < n+1) (hk:k < n+1):back i k < n:=by
 unfold back
 split <;> omega
theorem skip_back {i k:Nat} (h:i ≠ k):skip i (back i k)=k:=by
 unfold skip back
 by_cases h1:k < i
 · simp [h1]
 · rw [if_neg h1,if_neg (by omega)]
   omega
theorem det_lin:∀ {n k:Nat} (A:Mat) (c d:Int) (r s:Nat→Int),k < n→det n (setR A k fun j=>c * r j+d * s j)=c * det n (setR A k r)+d * det n (setR A k s)
 | 0,_,_,_,_,_,_,h=>absurd h (by omega)
 | n+1,k,A,c,d,r,s,h=>by
  show sum (n+1) _=c * sum (n+1) _+d * sum (n+1) _
  rw [← sum_lin]
  refine sum_congr fun i hi=>?_
  by_cases e:i=k
  · subst e
    rw [minor_same,minor_same,minor_same]
    simp only [setR,if_true]
    rw [Int.mul_add,Int.add_mul]
    congr 1
    · simp only [Int.mul_assoc,Int.mul_left_comm,Int.mul_comm]
    · simp only [Int.mul_assoc,Int.mul_left_comm,Int.mul_comm]
  · rw [minor_ne A e,minor_ne A e,minor_ne A e,det_lin _ c d _ _ (back_lt e hi h)]
    have e1:∀ v:Nat→Int,setR A k v i 0=A i 0:=fun v=>by simp [setR,e]
    rw [e1,e1,e1,Int.mul_add]
    congr 1 <;> simp only [Int.mul_assoc,Int.mul_left_comm,Int.mul_comm]
theorem setR_self (A:Mat) (k:Nat):setR A k (A k)=A:=by
 funext i j
 simp only [setR]
 split
 · rename_i e; rw [e]
 · rfl
theorem setR_set (A:Mat) (k:Nat) (r s:Nat→Int):setR (setR A k r) k s=setR A k s:=by
 funext i j
 simp only [setR]
 split <;> simp_all
theorem setR_comm (A:Mat) {k l:Nat} (h:k ≠ l) (r s:Nat→Int):setR (setR A k r) l s=setR (setR A l s) k r:=by
 funext i j
 simp only [setR]
 split <;> split <;> simp_all
theorem setR_at (A:Mat) (k:Nat) (r:Nat→Int):setR A k r k=r:=by
 funext j
 simp [setR]
theorem setR_off (A:Mat) {k l:Nat} (h:l ≠ k) (r:Nat→Int):setR A k r l=A l:=by
 funext j
 simp [setR,h]
theorem det_adj:∀ {n k:Nat} {A:Mat},k+1 < n→A k=A (k+1)→det n A=0
 | 0,_,_,h,_=>absurd h (by omega)
 | n+1,k,A,h,e=>by
  show sum (n+1) _=0
  rw [sum_two h]
  · have em:minor k A=minor (k+1) A:=by
     funext a b
     simp only [minor]
     by_cases ha:a=k
     · subst ha
       have e1:skip a a=a+1:=by simp [skip]
       have e2:skip (a+1) a=a:=by simp [skip]
       rw [e1,e2,e]
     · have:skip k a=skip (k+1) a:=by unfold skip; split <;> split <;> omega
       rw [this]
    rw [em,sg_succ,e,Int.neg_mul,Int.neg_mul]
    omega
  · intro i hi h1 h2
    have hb:back i (k+1)=back i k+1:=by unfold back; split <;> split <;> omega
    have hz:det n (minor i A)=0:=det_adj (k:=back i k) (by rw [← hb]; exact back_lt (by omega) hi h) (by
     funext b
     have s1:skip i (back i k)=k:=skip_back h1
     have s2:skip i (back i k+1)=k+1:=by rw [← hb]; exact skip_back h2
     simp only [minor]
     rw [s1,s2,e])
    rw [hz,Int.mul_zero]
theorem det_add {n k:Nat} (A:Mat) (r s:Nat→Int) (h:k < n):det n (setR A k fun j=>r j+s j)=det n (setR A k r)+det n (setR A k s):=by
 have:=det_lin A 1 1 r s h
 simpa using this
theorem det_swap_adj {n k:Nat} (A:Mat) (u v:Nat→Int) (h:k+1 < n):det n (setR (setR A k u) (k+1) v) = - det n (setR (setR A k v) (k+1) u):=by
 have hk:k < n:=by omega
 have ne:k ≠ k+1:=by omega
 have z:∀ w:Nat→Int,det n (setR (setR A k w) (k+1) w)=0:=fun w=>det_adj h (by rw [setR_at,setR_off _ (by omega),setR_at])
 have a1:=z fun j=>u j+v j
 rw [det_add _ _ _ h,setR_comm A ne,det_add _ _ _ hk,setR_comm A ne,det_add _ _ _ hk,← setR_comm A ne,← setR_comm A ne,← setR_comm A ne,← setR_comm A ne,z u,z v] at a1
 omega
theorem det_same:∀ (d:Nat) {n k:Nat} {A:Mat},k+d+1 < n→A k=A (k+d+1)→det n A=0
 | 0,_,_,_,h,e=>det_adj h e
 | d+1,n,k,A,h,e=>by
  have h1:=det_swap_adj A (A (k+d+1)) (A (k+d+1+1)) (k:=k+d+1) h
  rw [setR_self,setR_self] at h1
  rw [h1,det_same d (k:=k) (by omega)]
  · rfl
  · rw [setR_off _ (by omega),setR_off _ (by omega),setR_off _ (by omega),setR_at,e]
    rfl
theorem det_alike {n k l:Nat} {A:Mat} (hk:k < n) (hl:l < n) (ne:k ≠ l) (e:A k=A l):det n A=0:=by
 by_cases h:k < l
 · obtain ⟨d,rfl⟩:∃ d,l=k+d+1:=⟨l - k - 1,by omega⟩
   exact det_same d hl e
 · obtain ⟨d,rfl⟩:∃ d,k=l+d+1:=⟨k - l - 1,by omega⟩
   exact det_same d hk e.symm
theorem det_rowop {n k l:Nat} (A:Mat) (c:Int) (hk:k < n) (hl:l < n) (ne:l ≠ k):det n (setR A k fun j=>A k j+c * A l j)=det n A:=by
 have h:=det_lin A 1 c (A k) (A l) hk
 rw [setR_self] at h
 have z:det n (setR A k (A l))=0:=det_alike hk hl (fun e=>ne e.symm) (by rw [setR_at,setR_off _ ne])
 rw [z] at h
 simpa using h
theorem det_nil {n k:Nat} {A:Mat} (hk:k < n) (h:∀ j,A k j=0):det n A=0:=by
 have e:=det_lin A 0 0 (A k) (A k) hk
 have:setR A k (fun j=>0 * A k j+0 * A k j)=A:=by
  conv=>rhs; rw [← setR_self A k]
  congr 1
  funext j
  simp [h j]
 rw [this] at e
 simpa using e
def one:Mat:=fun i j=>if i=j then 1 else 0
theorem det_one:∀ n,det n one=1
 | 0=>rfl
 | n+1=>by
  show sum (n+1) _=1
  rw [sum_one (k:=0) (by omega)]
  · have:minor 0 one=one:=by
     funext a b
     simp [minor,skip,one]
    rw [this,det_one n]
    simp [sg,one]
  · intro i hi h0
    simp [one,h0]
end Mx
namespace Mx
def iter (f:Nat→Nat):Nat→Nat→Nat
 | 0,i=>i
 | k+1,i=>iter f k (f i)
theorem iter_succ (f:Nat→Nat):∀ k i,iter f (k+1) i=f (iter f k i)
 | 0,_=>rfl
 | k+1,i=>iter_succ f k (f i)
theorem iter_add (f:Nat→Nat) (a:Nat):∀ b i,iter f (a+b) i=iter f a (iter f b i)
 | 0,_=>rfl
 | b+1,i=>iter_add f a b (f i)
theorem iter_lt {f:Nat→Nat} {n:Nat} (h:∀ i,i < n→f i < n):∀ k i,i < n→iter f k i < n
 | 0,_,hi=>hi
 | k+1,i,hi=>iter_lt h k (f i) (h i hi)
theorem two_alike:∀ (n:Nat) (g:Nat→Nat),(∀ t,t≤n→g t < n)→∃ a b,a < b∧b≤n∧g a=g b
 | 0,g,h=>absurd (h 0 (Nat.le_refl _)) (by omega)
 | n+1,g,h=>by
  by_cases e:∃ a,a < n+1∧g a=g (n+1)
  · obtain ⟨a,ha,ea⟩:=e
    exact ⟨a,n+1,ha,Nat.le_refl _,ea⟩
  · -- put n in the place of the last one's value
    have hne:∀ a,a < n+1→g a ≠ g (n+1):=fun a ha ea=>e ⟨a,ha,ea⟩
    obtain ⟨a,b,h1,h2,h3⟩:=two_alike n (fun t=>if g t=n then g (n+1) else g t) fun t ht=>by
     have q1:=h t (by omega)
     have q2:=h (n+1) (by omega)
     have q3:=hne t (by omega)
     show (if g t=n then g (n+1) else g t) < n
     split <;> omega
    refine ⟨a,b,h1,by omega,?_⟩
    have q1:=hne a (by omega)
    have q2:=hne b (by omega)
    have h3':(if g a=n then g (n+1) else g a)=(if g b=n then g (n+1) else g b):=h3
    split at h3' <;> split at h3' <;> omega
def fun1 (r:Nat) (f:Nat→Nat):Mat:=fun i j=>if i=r then one r j else one i j - one (f i) j
def mix (S:Nat→Bool) (r:Nat) (f:Nat→Nat):Mat:=fun i j=>if S i then one i j else fun1 r f i j
def gaps (S:Nat→Bool):Nat→Nat
 | 0=>0
 | n+1=>gaps S n+if S n then 0 else 1
theorem gaps_zero {S:Nat→Bool}:∀ {n:Nat},gaps S n=0→∀ i,i < n→S i=true
 | 0,_,_,h=>absurd h (by omega)
 | n+1,e,i,h=>by
  have e':gaps S n+(if S n then 0 else 1)=0:=e
  by_cases hi:i=n
  · subst hi
    by_cases hs:S i=true
    · exact hs
    · rw [if_neg hs] at e'; omega
  · exact gaps_zero (n:=n) (by omega) i (by omega)
theorem gaps_pos {S:Nat→Bool}:∀ {n:Nat},gaps S n ≠ 0→∃ i,i < n∧S i=false
 | 0,e=>absurd rfl e
 | n+1,e=>by
  by_cases hs:S n=true
  · obtain ⟨i,h1,h2⟩:=gaps_pos (S:=S) (n:=n) fun z=>e (by show gaps S n+_=0; rw [z,if_pos hs])
    exact ⟨i,by omega,h2⟩
  · exact ⟨n,by omega,by simpa using hs⟩
theorem gaps_put {S:Nat→Bool} {k:Nat} (hk:S k=false):∀ n,gaps (fun i=>S i || decide (i=k)) n+(if k < n then 1 else 0)=gaps S n
 | 0=>rfl
 | n+1=>by
  have ih:=gaps_put hk n
  show gaps _ n+(if (S n || decide (n=k))=true then 0 else 1)+_=gaps S n+(if S n=true then 0 else 1)
  by_cases e:n=k
  · subst e
    rw [if_neg (by omega)] at ih
    rw [if_pos (by simp),if_pos (by omega),if_neg (by simp [hk])]
    omega
  · have:(S n || decide (n=k))=S n:=by simp [e]
    rw [this]
    by_cases hn:k < n
    · rw [if_pos hn] at ih
      rw [if_pos (show k < n+1 by omega)]
      omega
    · rw [if_neg hn] at ih
      rw [if_neg (show ¬ k < n+1 by omega)]
      omega
theorem last_out {S:Nat→Bool} {f:Nat→Nat} {n:Nat} (hf:∀ i,i < n→f i < n):∀ k i,i < n→S i=false→S (iter f k i)=true→∃ j,j < n∧S j=false∧S (f j)=true
 | 0,i,_,h0,h1=>by rw [show iter f 0 i=i from rfl,h0] at h1; cases h1
 | k+1,i,hi,h0,h1=>by
  by_cases hs:S (f i)=true
  · exact ⟨i,hi,h0,hs⟩
  · exact last_out hf k (f i) (hf i hi) (by simpa using hs) h1
theorem mix_one {n r:Nat} {f:Nat→Nat} (hf:∀ i,i < n→f i < n) (hl:∀ i,i < n→∃ k,iter f k i=r):∀ (m:Nat) (S:Nat→Bool),gaps S n=m→S r=true→det n (mix S r f)=1
 | 0,S,e,hr=>by
  rw [← det_one n]
  refine det_congr fun i j hi hj=>?_
  simp [mix,gaps_zero e i hi]
 | m+1,S,e,hr=>by
  obtain ⟨i,hi,h0⟩:=gaps_pos (S:=S) (n:=n) (by omega)
  obtain ⟨k,hk⟩:=hl i hi
  obtain ⟨j,hj,j0,j1⟩:=last_out hf k i hi h0 (by rw [hk]; exact hr)
  have hg:=gaps_put j0 n
  rw [if_pos hj,e] at hg
  have ih:=mix_one hf hl m (fun i=>S i || decide (i=j)) (by omega) (by simp [hr])
  have hjr:j ≠ r:=fun z=>by rw [z,hr] at j0; cases j0
  have hne:f j ≠ j:=fun z=>by rw [z,j0] at j1; cases j1
  rw [← ih,← det_rowop (mix S r f) 1 hj (hf j hj) hne]
  congr 1
  funext a b
  simp only [setR,mix]
  by_cases ea:a=j
  · subst ea
    simp [j0,j1,fun1,hjr]
  · simp [ea]
theorem fun1_tree {n r:Nat} {f:Nat→Nat} (hf:∀ i,i < n→f i < n) (hl:∀ i,i < n→∃ k,iter f k i=r):det n (fun1 r f)=1:=by
 have:=mix_one hf hl _ (fun i=>decide (i=r)) rfl (by simp)
 rw [← this]
 congr 1
 funext a b
 simp only [mix,decide_eq_true_eq]
 split
 · rename_i e; simp [fun1,e]
 · rfl
theorem fun1_turn {n r c:Nat} {f:Nat→Nat} (hf:∀ i,i < n→f i < n) (hc:c < n) (hr:∀ k,iter f k c ≠ r):∀ k,(∀ t,0 < t→t≤k→iter f t c ≠ c)→det n (setR (fun1 r f) c fun j=>one c j - one (iter f (k+1) c) j)=det n (fun1 r f)
 | 0,_=>by
  congr 1
  conv=>rhs; rw [← setR_self (fun1 r f) c]
  congr 1
  funext j
  have:c ≠ r:=hr 0
  simp [fun1,this,iter]
 | k+1,h=>by
  have ih:=fun1_turn hf hc hr k fun t h0 h1=>h t h0 (by omega)
  rw [← ih]
  have hne:=h (k+1) (by omega) (Nat.le_refl _)
  have hrn:=hr (k+1)
  rw [← det_rowop (setR (fun1 r f) c fun j=>one c j - one (iter f (k+1) c) j) 1 hc (iter_lt hf (k+1) c hc) hne]
  rw [setR_set,setR_at,setR_off _ hne]
  congr 2
  funext j
  rw [iter_succ f (k+1) c]
  simp only [fun1,if_neg hrn]
  omega
theorem fun1_not {n r i:Nat} {f:Nat→Nat} (hf:∀ i,i < n→f i < n) (hi:i < n) (hr:∀ k,iter f k i ≠ r):det n (fun1 r f)=0:=by
 obtain ⟨a,b,hab,_,e⟩:=two_alike n (fun t=>iter f t i) fun t _=>iter_lt hf t i hi
 have hc:=iter_lt hf a i hi
 have hb:iter f (b - a) (iter f a i)=iter f a i:=by
  rw [← iter_add,Nat.sub_add_cancel (by omega)]
  exact e.symm
 have hr':∀ k,iter f k (iter f a i) ≠ r:=fun k=>by rw [← iter_add]; exact hr _
 generalize iter f a i=c at *
 have least:∀ m,(∃ t,t≤m∧0 < t∧iter f t c=c)→∃ k,iter f (k+1) c=c∧∀ t,0 < t→t≤k→iter f t c ≠ c:=by
  intro m
  induction m with
  | zero=>rintro ⟨t,h1,h2,_⟩; omega
  | succ m ih =>
   rintro ⟨t,h1,h2,h3⟩
   by_cases hm:∃ t,t≤m∧0 < t∧iter f t c=c
   · exact ih hm
   · have ht:t=m+1:=Classical.byContradiction fun z=>hm ⟨t,by omega,h2,h3⟩
     subst ht
     exact ⟨m,h3,fun u u0 u1 ue=>hm ⟨u,u1,u0,ue⟩⟩
 obtain ⟨k,h1,h2⟩:=least (b - a) ⟨b - a,Nat.le_refl _,by omega,hb⟩
 rw [← fun1_turn hf hc hr' k h2,h1]
 refine det_nil hc fun j=>?_
 rw [setR_at]
 omega
def lsum:List Int→Int
 | []=>0
 | x :: xs=>x+lsum xs
def rowOf (xs:List Nat) (en:Nat→Nat) (p:Nat):Nat→Int:=fun j=>lsum (xs.map fun x=>one p j - one (en x) j)
theorem det_rows {n k:Nat} (A:Mat) (en:Nat→Nat) (p:Nat) (hk:k < n):∀ xs:List Nat,det n (setR A k (rowOf xs en p))=lsum (xs.map fun x=>det n (setR A k fun j=>one p j - one (en x) j))
 | []=>det_nil hk fun j=>by rw [setR_at]; rfl
 | x :: xs=>by
  have h:=det_add A (fun j=>one p j - one (en x) j) (rowOf xs en p) hk
  rw [det_rows A en p hk xs] at h
  exact h
def pre (r k:Nat) (ex:Nat→List Nat) (en g:Nat→Nat):Mat:=fun i=>if i=r then one r else if i < k then fun j=>one i j - one (en (g i)) j else rowOf (ex i) en i
def put (g:Nat→Nat) (k x:Nat):Nat→Nat:=fun i=>if i=k then x else g i
theorem pre_step {n r k:Nat} {ex:Nat→List Nat} {en g:Nat→Nat} (hk:k < n) (hr:k ≠ r):det n (pre r k ex en g)=lsum ((ex k).map fun x=>det n (pre r (k+1) ex en (put g k x))):=by
 have e0:pre r k ex en g=setR (pre r k ex en g) k (rowOf (ex k) en k):=by
  conv=>lhs; rw [← setR_self (pre r k ex en g) k]
  congr 1
  simp [pre,hr]
 rw [e0,det_rows _ en k hk]
 congr 1
 refine List.map_congr_left fun x _=>?_
 congr 1
 funext i j
 simp only [setR,pre,put]
 by_cases e:i=k
 · subst e
   simp [hr]
 · by_cases h1:i=r
   · subst h1
     simp [e]
   · by_cases h2:i < k
     · simp [e,h1,h2,show i < k+1 by omega]
     · simp [e,h1,h2,show ¬ i < k+1 by omega]
theorem pre_root {r k:Nat} {ex:Nat→List Nat} {en g:Nat→Nat} (hr:k=r):pre r k ex en g=pre r (k+1) ex en g:=by
 funext i
 simp only [pre]
 by_cases h1:i=r
 · simp [h1]
 · have:i < k↔i < k+1:=by omega
   simp [h1,this]
def leads (n r:Nat) (en g:Nat→Nat):Prop:=∀ i,i < n→∃ k,iter (fun i=>if i=r then r else en (g i)) k i=r
theorem pre_end {n r:Nat} {ex:Nat→List Nat} {en g:Nat→Nat} (hr:r < n) (he:∀ i,i < n→i ≠ r→en (g i) < n):(leads n r en g→det n (pre r n ex en g)=1)∧(¬ leads n r en g→det n (pre r n ex en g)=0):=by
 have hf:∀ i,i < n→(if i=r then r else en (g i)) < n:=fun i hi=>by
  split
  · exact hr
  · exact he i hi (by assumption)
 have e:det n (pre r n ex en g)=det n (fun1 r fun i=>if i=r then r else en (g i)):=by
  refine det_congr fun i j hi hj=>?_
  simp only [pre,fun1]
  by_cases h:i=r
  · simp [h]
  · simp [h,hi]
 rw [e]
 refine ⟨fun h=>fun1_tree hf h,fun h=>?_⟩
 obtain ⟨i,hi,hn⟩:∃ i,i < n∧∀ k,iter (fun i=>if i=r then r else en (g i)) k i ≠ r:=by
  refine Classical.byContradiction fun z=>h fun i hi=>?_
  exact Classical.byContradiction fun y=>z ⟨i,hi,fun k hk=>y ⟨k,hk⟩⟩
 exact fun1_not hf hi hn
open Classical in
noncomputable def many (n r:Nat) (ex:Nat→List Nat) (en:Nat→Nat):Nat→Nat→(Nat→Nat)→Int
 | 0,_,g=>if leads n r en g then 1 else 0
 | m+1,k,g=>if k=r then many n r ex en m (k+1) g else lsum ((ex k).map fun x=>many n r ex en m (k+1) (put g k x))
theorem many_det {n r:Nat} {ex:Nat→List Nat} {en:Nat→Nat} (hr:r < n) (hx:∀ i x,i < n→x∈ex i→en x < n):∀ (m k:Nat) (g:Nat→Nat),k+m=n→(∀ i,i < k→i ≠ r→en (g i) < n)→det n (pre r k ex en g)=many n r ex en m k g
 | 0,k,g,e,hg=>by
  have e':k=n:=by omega
  subst e'
  obtain ⟨h1,h2⟩:=pre_end (ex:=ex) hr hg
  unfold many
  split
  · exact h1 (by assumption)
  · exact h2 (by assumption)
 | m+1,k,g,e,hg=>by
  unfold many
  by_cases hk:k=r
  · rw [if_pos hk,pre_root hk]
    refine many_det hr hx m (k+1) g (by omega) fun i hi hne=>?_
    exact hg i (by omega) hne
  · rw [if_neg hk,pre_step (by omega) hk]
    congr 1
    refine List.map_congr_left fun x hx'=>?_
    refine many_det hr hx m (k+1) (put g k x) (by omega) fun i hi hne=>?_
    simp only [put]
    split
    · exact hx k x (by omega) hx'
    · exact hg i (by omega) hne
end Mx
namespace Mx
theorem det_swap {n k l:Nat} (A:Mat) (u v:Nat→Int) (hk:k < n) (hl:l < n) (ne:k ≠ l):det n (setR (setR A k u) l v) = - det n (setR (setR A k v) l u):=by
 have z:∀ w:Nat→Int,det n (setR (setR A k w) l w)=0:=fun w=>det_alike hk hl ne (by rw [setR_at,setR_off _ ne,setR_at])
 have a1:=z fun j=>u j+v j
 rw [det_add _ _ _ hl,setR_comm A ne,det_add _ _ _ hk,setR_comm A ne,det_add _ _ _ hk,← setR_comm A ne,← setR_comm A ne,← setR_comm A ne,← setR_comm A ne,z u,z v] at a1
 omega
theorem sum_drop {n k:Nat} {f:Nat→Int} (hk:k < n):sum n f=f k+sum n fun p=>if p=k then 0 else f p:=by
 induction n with
 | zero=>omega
 | succ n ih =>
  show sum n f+f n=f k+(sum n _+(if n=k then 0 else f n))
  by_cases e:n=k
  · subst e
    rw [if_pos rfl,sum_congr (g:=fun p=>if p=n then 0 else f p) fun i hi=>by
     show f i=if i=n then 0 else f i
     rw [if_neg (by omega)]]
    omega
  · rw [if_neg e,ih (by omega)]
    omega
theorem rowOf_id (xs:List Nat) (en:Nat→Nat) (p:Nat):rowOf (xs.map en) id p=rowOf xs en p:=by
 funext j
 unfold rowOf
 rw [List.map_map]
 rfl
end Mx
namespace Mx
theorem sum_skip {k:Nat} (f:Nat→Int):∀ {n:Nat},k≤n→sum (n+1) f=f k+sum n fun i=>f (skip k i)
 | 0,h=>by
  have:k=0:=by omega
  subst this
  show 0+f 0=f 0+0
  omega
 | n+1,h=>by
  show sum (n+1) f+f (n+1)=f k+(sum n (fun i=>f (skip k i))+f (skip k n))
  by_cases e:k=n+1
  · subst e
    have e1:sum n (fun i=>f (skip (n+1) i))=sum n f:=sum_congr fun i hi=>by
     show f (skip (n+1) i)=f i
     unfold skip
     rw [if_pos (by omega)]
    have e2:skip (n+1) n=n:=by unfold skip; rw [if_pos (by omega)]
    rw [e1,e2]
    show sum n f+f n+f (n+1)=_
    omega
  · have e2:skip k n=n+1:=by unfold skip; rw [if_neg (by omega)]
    rw [e2,sum_skip f (show k≤n by omega)]
    omega
theorem sg_add2 (i:Nat):sg (i+2)=sg i:=by rw [sg_succ,sg_succ]; omega
theorem sg_mul (i j:Nat):sg i * sg j=sg (i+j):=by
 unfold sg
 split <;> split <;> split <;> omega
theorem det_unit:∀ {n k c:Nat} {A:Mat},k≤n→c≤n→(∀ j,A k j=one c j)→det (n+1) A=sg (k+c) * det n fun a b=>A (skip k a) (skip c b)
 | n,k,0,A,hk,hc,h=>by
  show sum (n+1) _=_
  rw [sum_one (k:=k) (by omega) fun i hi hne=>?_]
  · rw [h 0]
    have e:minor k A=fun a b=>A (skip k a) (skip 0 b):=by
     funext a b
     simp [minor,skip]
    rw [e]
    simp [one]
  · have z:det n (minor i A)=0:=by
     have hb:=back_lt (n:=n) (fun z:i=k=>hne z) hi (by omega)
     refine det_nil hb fun j=>?_
     simp only [minor]
     rw [skip_back hne,h]
     simp [one]
    rw [z,Int.mul_zero]
 | 0,k,c+1,A,hk,hc,h=>absurd hc (by omega)
 | n+1,k,c+1,A,hk,hc,h=>by
  show sum (n+1+1) _=_ * sum (n+1) _
  rw [sum_skip _ hk]
  have e0:A k 0=0:=by rw [h]; simp [one]
  rw [e0,Int.mul_zero,Int.zero_mul,Int.zero_add]
  have hm:∀ (m:Nat) (f:Nat→Int) (c:Int),c * sum m f=sum m fun i=>c * f i:=fun m f c=>by
   have:=sum_lin c 0 m f f
   simp at this
   exact this.symm
  rw [hm]
  refine sum_congr fun i hi=>?_
  have hne:skip k i ≠ k:=by unfold skip; split <;> omega
  have hb:back (skip k i) k≤n:=by
   have:=back_lt (n:=n+1) (fun z:skip k i=k=>hne z) (skip_lt hi) (by omega)
   omega
  have ih:=det_unit (A:=minor (skip k i) A) hb (show c≤n by omega) fun j=>by
   simp only [minor]
   rw [skip_back hne,h]
   simp [one]
  rw [ih]
  have em:(fun a b=>minor (skip k i) A (skip (back (skip k i) k) a) (skip c b))=minor i fun a b=>A (skip k a) (skip (c+1) b):=by
   funext a b
   simp only [minor]
   have s1:skip (skip k i) (skip (back (skip k i) k) a)=skip k (skip i a):=by
    unfold back skip
    by_cases h1:i < k
    · simp only [if_pos h1]
      rw [if_neg (show ¬ k < i by omega)]
      (repeat' split) <;> omega
    · simp only [if_neg h1]
      rw [if_pos (show k < i+1 by omega)]
      (repeat' split) <;> omega
   have s2:skip c b+1=skip (c+1) (b+1):=by
    unfold skip
    split <;> split <;> omega
   rw [s1,s2]
  rw [em]
  have s0:skip (c+1) 0=0:=by simp [skip]
  show sg (skip k i) * A (skip k i) 0 * (sg (back (skip k i) k+c) * det n _)=sg (k+(c+1)) * (sg i * A (skip k i) (skip (c+1) 0) * det n _)
  rw [s0]
  have sgn:sg (skip k i) * sg (back (skip k i) k+c)=sg (k+(c+1)) * sg i:=by
   rw [sg_mul,sg_mul]
   unfold back skip
   by_cases h1:i < k
   · simp only [if_pos h1]
     rw [if_neg (show ¬ k < i by omega)]
     have:k+(c+1)+i=(i+(k - 1+c))+2:=by omega
     rw [this,sg_add2]
   · simp only [if_neg h1]
     rw [if_pos (show k < i+1 by omega)]
     congr 1
     omega
  have a1:sg (skip k i) * A (skip k i) 0 * (sg (back (skip k i) k+c) * det n (minor i fun a b=>A (skip k a) (skip (c+1) b)))=(sg (skip k i) * sg (back (skip k i) k+c)) * (A (skip k i) 0 * det n (minor i fun a b=>A (skip k a) (skip (c+1) b))):=by
   simp only [Int.mul_assoc,Int.mul_left_comm]
  rw [a1,sgn]
  simp only [Int.mul_assoc]
end Mx
namespace Mx
def pick {α:Type} (c:α→Nat):List α→Nat→Option (α × Nat)
 | [],_=>none
 | x :: xs,i=>if i < c x then some (x,i) else pick c xs (i - c x)
theorem get_flatMap {α β:Type} (f:α→List β):∀ (l:List α) (i:Nat),(l.flatMap f)[i]?=(pick (fun x=>(f x).length) l i).bind fun p=>(f p.1)[p.2]?
 | [],i=>by simp [pick]
 | x :: xs,i=>by
  rw [List.flatMap_cons]
  unfold pick
  by_cases h:i < (f x).length
  · rw [if_pos h,List.getElem?_append_left h]
    rfl
  · rw [if_neg h,List.getElem?_append_right (by omega),get_flatMap f xs]
def ahead {α:Type} (c:α→Nat):List α→Nat
 | []=>0
 | x :: xs=>c x+ahead c xs
theorem ahead_append {α:Type} (c:α→Nat):∀ (l r:List α),ahead c (l++r)=ahead c l+ahead c r
 | [],r=>by simp [ahead]
 | x :: l,r=>by
  show c x+ahead c (l++r)=c x+ahead c l+ahead c r
  rw [ahead_append c l r]
  omega
theorem ahead_flatMap {α β:Type} (f:α→List β):∀ l:List α,(l.flatMap f).length=ahead (fun x=>(f x).length) l
 | []=>rfl
 | x :: l=>by
  rw [List.flatMap_cons,List.length_append,ahead_flatMap f l]
  rfl
theorem pick_ahead {α:Type} (c:α→Nat):∀ (l:List α) (x:α) (r:List α) (i:Nat),i < c x→pick c (l++x :: r) (ahead c l+i)=some (x,i)
 | [],x,r,i,h=>by
  show (if 0+i < c x then some (x,0+i) else pick c r (0+i - c x))=_
  rw [Nat.zero_add,if_pos h]
 | y :: l,x,r,i,h=>by
  show (if c y+ahead c l+i < c y then _ else pick c (l++x :: r) (c y+ahead c l+i - c y))=_
  rw [if_neg (by omega)]
  have:c y+ahead c l+i - c y=ahead c l+i:=by omega
  rw [this]
  exact pick_ahead c l x r i h
theorem pick_some {α:Type} (c:α→Nat):∀ (l:List α) (i:Nat),i < ahead c l→∃ l1 x r j,l=l1++x :: r∧i=ahead c l1+j∧j < c x∧pick c l i=some (x,j)
 | [],i,h=>absurd h (by simp [ahead])
 | y :: l,i,h=>by
  by_cases hi:i < c y
  · exact ⟨[],y,l,i,rfl,by simp [ahead],hi,by unfold pick; rw [if_pos hi]⟩
  · have h':i < c y+ahead c l:=h
    obtain ⟨l1,x,r,j,e1,e2,e3,e4⟩:=pick_some c l (i - c y) (by omega)
    refine ⟨y :: l1,x,r,j,by rw [e1]; rfl,?_,e3,by unfold pick; rw [if_neg hi]; exact e4⟩
    show i=c y+ahead c l1+j
    omega
def ends {α:Type} (next:α→List α) (leaf:α→Bool):Nat→α→List α
 | 0,s=>if leaf s then [s] else []
 | m+1,s=>(next s).flatMap (ends next leaf m)
end Mx
namespace Mx
theorem det_sums {n k:Nat} (T:Mat) (c:Nat→Int) (R:Mat) (hk:k < n):∀ m,det n (setR T k fun x=>sum m fun i=>c i * R i x)=sum m fun i=>c i * det n (setR T k (R i))
 | 0=>det_nil hk fun j=>by rw [setR_at]; rfl
 | m+1=>by
  have h:=det_lin T 1 (c m) (fun x=>sum m fun i=>c i * R i x) (R m) hk
  rw [det_sums T c R hk m,Int.one_mul] at h
  show _=sum m _+c m * _
  rw [← h]
  congr 2
  funext x
  show sum m _+c m * R m x=_
  rw [Int.one_mul]
theorem unit_sum {n:Nat} (v:Nat→Int) {x:Nat} (hx:x < n):(sum n fun c=>v c * one c x)=v x:=by
 rw [sum_one hx fun i hi hne=>by
  show v i * one i x=0
  simp [one,hne]]
 simp [one]
def cof (n:Nat) (A:Mat) (s p:Nat):Int:=det n (setR A s (one p))
theorem det_cof {n k:Nat} (A:Mat) (v:Nat→Int) (hk:k < n):det n (setR A k v)=sum n fun c=>v c * cof n A k c:=by
 unfold cof
 rw [← det_sums A v one hk n]
 refine det_congr fun i j hi hj=>?_
 simp only [setR]
 split
 · rw [unit_sum v hj]
 · rfl
def tr (A:Mat):Mat:=fun i j=>A j i
theorem det_tr:∀ (n:Nat) (A:Mat),det n (tr A)=det n A
 | 0,_=>rfl
 | n+1,A=>by
  have e:=det_cof (tr A) (tr A 0) (show 0 < n+1 by omega)
  rw [setR_self] at e
  rw [e]
  show _=sum (n+1) _
  refine sum_congr fun c hc=>?_
  unfold cof
  rw [det_unit (k:=0) (c:=c) (A:=setR (tr A) 0 (one c)) (by omega) (by omega) (fun j=>by rw [setR_at])]
  have em:(fun a b=>setR (tr A) 0 (one c) (skip 0 a) (skip c b))=tr (minor c A):=by
   funext a b
   rw [setR_off _ (by unfold skip; split <;> omega)]
   simp [tr,minor,skip]
  rw [em,det_tr n]
  simp only [tr,Nat.zero_add]
  rw [← Int.mul_assoc,Int.mul_comm (A c 0)]
theorem cof_tr {n s p:Nat} (A:Mat) (hs:s < n) (hp:p < n):cof n A s p=cof n (tr A) p s:=by
 cases n with
 | zero=>omega
 | succ n =>
  unfold cof
  rw [det_unit (k:=s) (c:=p) (A:=setR A s (one p)) (by omega) (by omega) (fun j=>by rw [setR_at])]
  rw [det_unit (k:=p) (c:=s) (A:=setR (tr A) p (one s)) (by omega) (by omega) (fun j=>by rw [setR_at])]
  have sk:∀ i a,skip i a ≠ i:=fun i a=>by unfold skip; split <;> omega
  have em:(fun a b=>setR (tr A) p (one s) (skip p a) (skip s b))=tr fun a b=>setR A s (one p) (skip s a) (skip p b):=by
   funext a b
   simp only [tr]
   rw [setR_off _ (sk p a),setR_off _ (sk s b)]
   rfl
  rw [em,det_tr,Nat.add_comm]
theorem col_exp {n p q:Nat} (A:Mat) (hp:p < n) (hq:q < n):(sum n fun i=>A i q * cof n A i p)=if p=q then det n A else 0:=by
 have e:(sum n fun i=>A i q * cof n A i p)=det n (setR (tr A) p (tr A q)):=by
  rw [det_cof _ _ hp]
  exact sum_congr fun i hi=>by rw [cof_tr A hi hp]; rfl
 rw [e]
 split
 · rename_i h
   subst h
   rw [setR_self,det_tr]
 · rename_i h
   refine det_alike hp hq h ?_
   rw [setR_at,setR_off _ (fun z=>h z.symm)]
theorem sum_swap (f:Nat→Nat→Int) (m:Nat):∀ n,(sum n fun i=>sum m fun j=>f i j)=sum m fun j=>sum n fun i=>f i j
 | 0=>by
  symm
  exact sum_zero fun i hi=>rfl
 | n+1=>by
  show sum n _+sum m _=sum m fun j=>sum n _+f n j
  rw [sum_swap f m n]
  have:=sum_lin 1 1 m (fun j=>sum n fun i=>f i j) (fun j=>f n j)
  simp only [Int.one_mul] at this
  exact this.symm
theorem sum_mul (c:Int) (m:Nat) (f:Nat→Int):c * sum m f=sum m fun i=>c * f i:=by
 have:=sum_lin c 0 m f f
 simp at this
 exact this.symm
theorem cramer {n q:Nat} (A:Mat) (v:Nat→Int) (hq:q < n):det n A * v q=sum n fun i=>det n (setR A i v) * A i q:=by
 have e:(sum n fun i=>det n (setR A i v) * A i q)=sum n fun i=>sum n fun p=>v p * (A i q * cof n A i p):=sum_congr fun i hi=>by
  rw [det_cof A v hi,Int.mul_comm,sum_mul]
  exact sum_congr fun p _=>by rw [Int.mul_left_comm]
 rw [e,sum_swap]
 have e2:(sum n fun p=>sum n fun i=>v p * (A i q * cof n A i p))=sum n fun p=>v p * (if p=q then det n A else 0):=sum_congr fun p hp=>by
  rw [← sum_mul,col_exp A hp hq]
 rw [e2,sum_one hq fun i _ hne=>by rw [if_neg hne,Int.mul_zero],if_pos rfl,Int.mul_comm]
theorem row_scale {n k:Nat} (T:Mat) (c:Int) (v:Nat→Int) (hk:k < n):det n (setR T k fun j=>c * v j)=c * det n (setR T k v):=by
 have:=det_lin T c 0 v v hk
 simp only [Int.zero_mul,Int.add_zero] at this
 exact this
theorem two_rows {n k l:Nat} (A:Mat) (v w:Nat→Int) (hk:k < n) (hl:l < n) (ne:k ≠ l) :
 det n A * det n (setR (setR A k v) l w)=det n (setR A k v) * det n (setR A l w) - det n (setR A l v) * det n (setR A k w):=by
 rw [setR_comm A ne,← row_scale _ _ _ hk]
 have e:det n (setR (setR A l w) k fun j=>det n A * v j)=det n (setR (setR A l w) k fun j=>sum n fun i=>det n (setR A i v) * A i j):=by
  refine det_congr fun i j hi hj=>?_
  simp only [setR]
  split
  · exact cramer A v hj
  · rfl
 rw [e,det_sums _ _ _ hk,sum_drop hk,sum_one hl fun i hi hne=>?_]
 · rw [if_neg (fun z=>ne z.symm)]
   have e1:setR (setR A l w) k (A k)=setR A l w:=by
    conv=>rhs; rw [← setR_self (setR A l w) k]
    rw [setR_off _ ne]
   have e2:det n (setR (setR A l w) k (A l)) = - det n (setR A k w):=by
    rw [← setR_comm A ne,det_swap A _ _ hk hl ne]
    have:setR (setR A k w) l (A l)=setR A k w:=by
     conv=>rhs; rw [← setR_self (setR A k w) l]
     rw [setR_off _ (fun z=>ne z.symm)]
    rw [this]
   rw [e1,e2,Int.mul_neg,Int.sub_eq_add_neg]
 · show (if i=k then 0 else _)=0
   by_cases h:i=k
   · rw [if_pos h]
   · rw [if_neg h]
     have:det n (setR (setR A l w) k (A i))=0:=det_alike hk hi (fun z=>h z.symm) (by rw [setR_at,setR_off _ h,setR_off _ hne])
     rw [this,Int.mul_zero]
def bd (M:Nat):Nat→Nat
 | 0=>1
 | n+1=>(n+1) * (M * bd M n)
theorem sum_bound {f:Nat→Int} {B:Nat}:∀ n,(∀ i,i < n→(f i).natAbs≤B)→(sum n f).natAbs≤n * B
 | 0,_=>by simp [sum]
 | n+1,h=>by
  have h1:=sum_bound n fun i hi=>h i (by omega)
  have h2:=h n (by omega)
  show (sum n f+f n).natAbs≤_
  rw [Nat.succ_mul]
  omega
theorem sg_abs (i:Nat):(sg i).natAbs=1:=by unfold sg; split <;> rfl
theorem det_bound {M:Nat}:∀ {n:Nat} {A:Mat},(∀ i j,i < n→j < n→(A i j).natAbs≤M)→(det n A).natAbs≤bd M n
 | 0,_,_=>Nat.le_refl _
 | n+1,A,h=>by
  show (sum (n+1) _).natAbs≤(n+1) * (M * bd M n)
  refine sum_bound (n+1) fun i hi=>?_
  rw [Int.natAbs_mul,Int.natAbs_mul,sg_abs,Nat.one_mul]
  refine Nat.mul_le_mul (h i 0 hi (by omega)) (det_bound fun a b ha hb=>?_)
  exact h _ _ (skip_lt ha) (by omega)
theorem bd_mono (M:Nat) (hM:1≤M):∀ {a b:Nat},a≤b→bd M a≤bd M b:=by
 intro a b h
 induction h with
 | refl=>exact Nat.le_refl _
 | @step m h ih =>
  refine Nat.le_trans ih ?_
  show bd M m≤(m+1) * (M * bd M m)
  rw [← Nat.mul_assoc]
  exact Nat.le_mul_of_pos_left _ (Nat.mul_pos (by omega) (by omega))
theorem bd_big:bd 64 32 < 2 ^ 400:=by decide +kernel
end Mx
namespace Mx
def Rows (en:Nat→Nat) (gv:Nat→List Nat):Mat:=fun i=>rowOf (gv i) en i
def putG (gv:Nat→List Nat) (k:Nat) (xs:List Nat):Nat→List Nat:=fun i=>if i=k then xs else gv i
theorem Rows_put (en:Nat→Nat) (gv:Nat→List Nat) (k:Nat) (xs:List Nat):Rows en (putG gv k xs)=setR (Rows en gv) k (rowOf xs en k):=by
 funext i j
 simp only [Rows,putG,setR]
 by_cases h:i=k
 · subst h; simp
 · simp [h]
theorem det_less {n s:Nat} (A:Mat) (p x:Nat) (hs:s < n):det n (setR A s fun j=>one p j - one x j)=cof n A s p - cof n A s x:=by
 have:=det_lin A 1 (-1) (one p) (one x) hs
 unfold cof
 have e:(fun j=>one p j - one x j)=fun j=>1 * one p j + -1 * one x j:=by funext j; omega
 rw [e,this]
 omega
theorem det_shift {n s:Nat} (A:Mat) (en:Nat→Nat) (p:Nat) (xs:List Nat) (hs:s < n):det n (setR A s (rowOf xs en p))=lsum (xs.map fun x=>cof n A s p - cof n A s (en x)):=by
 rw [det_rows A en p hs xs]
 congr 1
 exact List.map_congr_left fun x _=>det_less A p (en x) hs
theorem give_cof {n k s p:Nat} (A:Mat) (v:Nat→Int) (hk:k < n) (hs:s < n) (ne:s ≠ k) (h0:0 < det n A) :
 (det n (setR A k v) * cof n A s p - det n (setR A s v) * cof n A k p) / det n A=cof n (setR A k v) s p:=by
 unfold cof
 rw [← two_rows A v (one p) hk hs (fun z=>ne z.symm)]
 exact Int.mul_ediv_cancel_left _ (by omega)
theorem cof_same {n k p:Nat} (A:Mat) (v:Nat→Int):cof n (setR A k v) k p=cof n A k p:=by
 unfold cof
 rw [setR_set]
theorem lsum_nats {α:Type} (f:α→Nat):∀ l:List α,lsum (l.map fun x=>(f x:Int))=((l.map f).sum:Nat)
 | []=>rfl
 | x :: xs=>by
  show (f x:Int)+lsum (xs.map _)=_
  rw [lsum_nats f xs]
  simp
def chs (gv:Nat→List Nat):Nat→Nat→List (List Nat)
 | 0,_=>[[]]
 | m+1,k=>(gv k).flatMap fun x=>(chs gv m (k+1)).map (x :: ·)
theorem mem_chs {gv:Nat→List Nat}:∀ {m k:Nat} {c:List Nat},c∈chs gv m k↔c.length=m∧∀ i,i < m→c.getD i 0∈gv (k+i)
 | 0,k,c=>by
  simp only [chs,List.mem_singleton]
  constructor
  · rintro rfl
    exact ⟨rfl,fun i hi=>absurd hi (by omega)⟩
  · rintro ⟨h,_⟩
    exact List.length_eq_zero_iff.mp h
 | m+1,k,c=>by
  simp only [chs,List.mem_flatMap,List.mem_map]
  constructor
  · rintro ⟨x,hx,d,hd,rfl⟩
    obtain ⟨h1,h2⟩:=mem_chs.mp hd
    refine ⟨by simp [h1],fun i hi=>?_⟩
    cases i with
    | zero=>simpa using hx
    | succ i =>
     have:=h2 i (by omega)
     rw [show k+1+i=k+(i+1) by omega] at this
     simpa using this
  · rintro ⟨h1,h2⟩
    cases c with
    | nil=>simp at h1
    | cons x d =>
     refine ⟨x,by simpa using h2 0 (by omega),d,mem_chs.mpr ⟨by simpa using h1,fun i hi=>?_⟩,rfl⟩
     have:=h2 (i+1) (by omega)
     rw [show k+(i+1)=k+1+i by omega] at this
     simpa using this
def ofL (c:List Nat):Nat→Nat:=fun i=>c.getD i 0
def outs (n:Nat) (en g:Nat→Nat):Prop:=leads (n+1) n en g
theorem iter_congr {f f':Nat→Nat} (h:∀ i,f i=f' i) (k i:Nat):iter f k i=iter f' k i:=by
 have:f=f':=funext h
 rw [this]
theorem outs_congr {n:Nat} {en g g':Nat→Nat} (hx:∀ i,i < n→en (g i)≤n) (h:∀ i,i < n→g i=g' i) (o:outs n en g):outs n en g':=fun i hi=>by
 obtain ⟨k,hk⟩:=o i hi
 refine ⟨k,?_⟩
 have:∀ k i,i < n+1→iter (fun i=>if i=n then n else en (g' i)) k i=iter (fun i=>if i=n then n else en (g i)) k i:=by
  intro k
  induction k with
  | zero=>intro i _; rfl
  | succ k ih =>
   intro i hi
   show iter _ k _=iter _ k _
   by_cases e:i=n
   · simp only [e,if_true]
     exact ih n (by omega)
   · simp only [if_neg e]
     rw [← h i (by omega)]
     exact ih _ (by have:=hx i (by omega); omega)
 rw [this k i hi]
 exact hk
open Classical in
noncomputable def trs (n:Nat) (en:Nat→Nat) (gv:Nat→List Nat):List (List Nat):=(chs gv n 0).filter fun c=>decide (outs n en (ofL c))
open Classical in
theorem many_len {n:Nat} {en:Nat→Nat} {gv:Nat→List Nat} (hx:∀ i x,i < n→x∈gv i→en x≤n):∀ (m k:Nat) (g:Nat→Nat),k+m=n→(∀ i,i < k→en (g i)≤n) →
 many (n+1) n gv en (m+1) k g=(((chs gv m k).filter fun c=>decide (outs n en fun i=>if i < k then g i else c.getD (i - k) 0)).length:Nat)
 | 0,k,g,e,hg=>by
  have e':k=n:=by omega
  subst e'
  unfold many
  rw [if_pos rfl]
  unfold many
  have ic:leads (k+1) k en g↔outs k en fun i=>if i < k then g i else ([]:List Nat).getD (i - k) 0:=by
   constructor
   · exact fun h=>outs_congr hg (fun i hi=>by rw [if_pos hi]) h
   · exact fun h=>outs_congr (fun i hi=>by simp only [if_pos hi]; exact hg i hi) (fun i hi=>by simp only [if_pos hi]) h
  by_cases h:leads (k+1) k en g
  · rw [if_pos h]
    have:=ic.mp h
    show (1:Int)=(([([]:List Nat)].filter _).length:Nat)
    rw [List.filter_cons,if_pos (decide_eq_true this)]
    rfl
  · rw [if_neg h]
    have:¬ outs k en fun i=>if i < k then g i else ([]:List Nat).getD (i - k) 0:=fun z=>h (ic.mpr z)
    show (0:Int)=(([([]:List Nat)].filter _).length:Nat)
    rw [List.filter_cons,if_neg (by simpa using this)]
    rfl
 | m+1,k,g,e,hg=>by
  unfold many
  rw [if_neg (by omega)]
  have ih:∀ x∈gv k,many (n+1) n gv en (m+1) (k+1) (put g k x)=((((chs gv m (k+1)).map (x :: ·)).filter fun c=>decide (outs n en fun i=>if i < k then g i else c.getD (i - k) 0)).length:Nat):=fun x hxk=>by
   rw [many_len hx m (k+1) (put g k x) (by omega) fun i hi=>?_]
   · rw [List.filter_map,List.length_map]
     congr 2
     refine List.filter_congr fun c _=>?_
     have ef:(fun i=>if i < k+1 then put g k x i else c.getD (i - (k+1)) 0)=fun i=>if i < k then g i else (x :: c).getD (i - k) 0:=by
      funext i
      by_cases h1:i < k
      · simp [put,h1,show i < k+1 by omega,show i ≠ k by omega]
      · by_cases h2:i=k
        · subst h2; simp [put]
        · have:i - k=(i - (k+1))+1:=by omega
          rw [if_neg h1,if_neg (show ¬ i < k+1 by omega),this,List.getD_cons_succ]
     simp only [ef,Function.comp_apply]
   · simp only [put]
     split
     · exact hx k x (by omega) hxk
     · exact hg i (by omega)
  have e1:(gv k).map (fun x=>many (n+1) n gv en (m+1) (k+1) (put g k x))=(gv k).map fun x=>((((chs gv m (k+1)).map (x :: ·)).filter fun c=>decide (outs n en fun i=>if i < k then g i else c.getD (i - k) 0)).length:Int):=List.map_congr_left ih
  rw [e1,lsum_nats]
  show _=((((gv k).flatMap fun x=>(chs gv m (k+1)).map (x :: ·)).filter _).length:Int)
  rw [List.filter_flatMap,List.length_flatMap]
theorem det_trs {n:Nat} {en:Nat→Nat} {gv:Nat→List Nat} (hx:∀ i x,i < n→x∈gv i→en x≤n):det n (Rows en gv)=((trs n en gv).length:Nat):=by
 have h1:det (n+1) (pre n 0 gv en fun _=>0)=det n (Rows en gv):=by
  rw [det_unit (k:=n) (c:=n) (Nat.le_refl _) (Nat.le_refl _) fun j=>by simp [pre]]
  have s2:sg (n+n)=1:=by unfold sg; rw [if_pos (by omega)]
  rw [s2,Int.one_mul]
  refine det_congr fun i j hi hj=>?_
  have a1:skip n i=i:=by unfold skip; rw [if_pos hi]
  have a2:skip n j=j:=by unfold skip; rw [if_pos hj]
  rw [a1,a2]
  simp [pre,Rows,show i ≠ n by omega]
 rw [← h1]
 have hx':∀ i x,i < n+1→x∈(if i=n then [] else gv i)→en x < n+1:=fun i x hi hm=>by
  by_cases e:i=n
  · rw [if_pos e] at hm; cases hm
  · rw [if_neg e] at hm
    have:=hx i x (by omega) hm
    omega
 have h2:pre n 0 gv en (fun _=>0)=pre n 0 (fun i=>if i=n then [] else gv i) en fun _=>0:=by
  funext i
  simp only [pre]
  by_cases e:i=n
  · simp [e]
  · simp [e]
 rw [h2,many_det (by omega) hx' (n+1) 0 _ (by omega) (fun i hi=>absurd hi (by omega)),many_len (fun i x hi hm=>hx i x hi (by rw [if_neg (by omega)] at hm; exact hm)) n 0 _ (by omega) (fun i hi=>absurd hi (by omega))]
 unfold trs
 have hc:∀ m k,k+m=n→chs (fun i=>if i=n then [] else gv i) m k=chs gv m k:=by
  intro m
  induction m with
  | zero=>intro k _; rfl
  | succ m ih =>
   intro k hk
   unfold chs
   rw [ih (k+1) (by omega),if_neg (by omega)]
 rw [hc n 0 (by omega)]
 rfl
theorem det_nonneg {n:Nat} {en:Nat→Nat} {gv:Nat→List Nat} (hx:∀ i x,i < n→x∈gv i→en x≤n):0≤det n (Rows en gv):=by
 rw [det_trs hx]; omega
theorem outs_straight {n k m:Nat} {en g:Nat→Nat} (hm:en m=n) (o:outs n en g):outs n en (put g k m):=fun i hi=>by
 obtain ⟨t,ht⟩:=o i hi
 have:∀ t i,iter (fun i=>if i=n then n else en (g i)) t i=n→∃ t',iter (fun i=>if i=n then n else en (put g k m i)) t' i=n:=by
  intro t
  induction t with
  | zero=>intro i h; exact ⟨0,h⟩
  | succ t ih =>
   intro i h
   by_cases e:i=n
   · exact ⟨0,e⟩
   · by_cases ek:i=k
     · refine ⟨1,?_⟩
       show (if i=n then n else en (put g k m i))=n
       rw [if_neg e]
       simp [put,ek,hm]
     · have h':iter (fun i=>if i=n then n else en (g i)) t (en (g i))=n:=by
        have h2:iter (fun i=>if i=n then n else en (g i)) t (if i=n then n else en (g i))=n:=h
        rw [if_neg e] at h2
        exact h2
       obtain ⟨t',ht'⟩:=ih _ h'
       refine ⟨t'+1,?_⟩
       show iter _ t' (if i=n then n else en (put g k m i))=n
       rw [if_neg e]
       simp only [put,if_neg ek]
       exact ht'
 exact this t i ht
theorem zero_stays {n k m:Nat} {en:Nat→Nat} {gv:Nat→List Nat} (hk:k < n) (hm:en m=n) (hgk:gv k=[m]) (hx:∀ i x,i < n→x∈gv i→en x≤n) (h0:det n (Rows en gv)=0) (xs:List Nat) (hxs:∀ x∈xs,en x≤n):det n (Rows en (putG gv k xs))=0:=by
 have hx2:∀ i x,i < n→x∈putG gv k xs i→en x≤n:=fun i x hi h=>by
  unfold putG at h
  split at h
  · exact hxs x h
  · exact hx i x hi h
 rw [det_trs hx] at h0
 rw [det_trs hx2]
 have e0:trs n en gv=[]:=List.length_eq_zero_iff.mp (by omega)
 have:trs n en (putG gv k xs)=[]:=by
  rw [List.eq_nil_iff_forall_not_mem]
  intro c hc
  unfold trs at hc e0
  rw [List.mem_filter] at hc
  obtain ⟨h1,h2⟩:=hc
  have ho:outs n en (ofL c):=by simpa using h2
  obtain ⟨l1,l2⟩:=mem_chs.mp h1
  have hin:c.set k m∈chs gv n 0:=by
   refine mem_chs.mpr ⟨by simp [l1],fun i hi=>?_⟩
   by_cases e:i=k
   · subst e
     rw [Nat.zero_add,hgk,List.getD_eq_getElem?_getD,List.getElem?_set]
     simp [l1,hi]
   · have q:=l2 i hi
     rw [Nat.zero_add] at q ⊢
     unfold putG at q
     rw [if_neg e] at q
     rw [List.getD_eq_getElem?_getD,List.getElem?_set,if_neg (fun z=>e z.symm),← List.getD_eq_getElem?_getD]
     exact q
  have hout:outs n en (ofL (c.set k m)):=by
   refine outs_congr (g:=put (ofL c) k m) (fun i hi=>?_) (fun i hi=>?_) (outs_straight hm ho)
   · simp only [put]
     split
     · omega
     · have q:=l2 i hi
       rw [Nat.zero_add] at q
       exact hx2 i _ hi q
   · simp only [put,ofL]
     rw [List.getD_eq_getElem?_getD,List.getD_eq_getElem?_getD,List.getElem?_set]
     by_cases e:i=k
     · subst e; simp [l1,hi]
     · rw [if_neg e,if_neg (fun z=>e z.symm)]
  have:c.set k m∈(chs gv n 0).filter fun c=>@decide (outs n en (ofL c)) (Classical.propDecidable _):=by
   rw [List.mem_filter]
   exact ⟨hin,by simpa using hout⟩
  rw [e0] at this
  cases this
 rw [this]
 rfl
theorem det_start {n m:Nat} {en:Nat→Nat} (hm:en m=n):det n (Rows en fun _=>[m])=1:=by
 rw [← det_one n]
 refine det_congr fun i j hi hj=>?_
 simp [Rows,rowOf,lsum,one,hm,show n ≠ j by omega]
theorem cof_start {n m s p:Nat} {en:Nat→Nat} (hm:en m=n) (hs:s < n) (hp:p < n):cof n (Rows en fun _=>[m]) s p=if p=s then 1 else 0:=by
 have e:cof n (Rows en fun _=>[m]) s p=det n (setR one s (one p)):=by
  refine det_congr fun i j hi hj=>?_
  simp only [setR]
  split
  · rfl
  · simp [Rows,rowOf,lsum,one,hm,show n ≠ j by omega]
 rw [e]
 split
 · rename_i h
   rw [h,setR_self,det_one]
 · rename_i h
   exact det_alike hs hp (fun z=>h z.symm) (by rw [setR_at,setR_off _ h])
theorem lsum_bound {α:Type} {f:α→Int}:∀ l:List α,(∀ x∈l,(f x).natAbs≤1)→(lsum (l.map f)).natAbs≤l.length
 | [],_=>by simp [lsum]
 | x :: xs,h=>by
  have h1:=h x List.mem_cons_self
  have h2:=lsum_bound xs fun y hy=>h y (List.mem_cons_of_mem _ hy)
  show (f x+lsum (xs.map f)).natAbs≤_
  rw [List.length_cons]
  omega
theorem row_bound (xs:List Nat) (en:Nat→Nat) (p j:Nat):(rowOf xs en p j).natAbs≤xs.length:=by
 refine lsum_bound xs fun x _=>?_
 unfold one
 split <;> split <;> decide
theorem one_bound (p j:Nat):(one p j).natAbs≤64:=by unfold one; split <;> decide
theorem det_le {n:Nat} {en:Nat→Nat} {gv:Nat→List Nat} (hn:n≤32) (hg:∀ i,i < n→(gv i).length≤64):(det n (Rows en gv)).natAbs≤bd 64 32 :=
 Nat.le_trans (det_bound fun i j hi hj=>Nat.le_trans (row_bound _ _ _ _) (hg i hi)) (bd_mono 64 (by decide) hn)
theorem cof_le {n s p:Nat} {en:Nat→Nat} {gv:Nat→List Nat} (hn:n≤32) (hg:∀ i,i < n→(gv i).length≤64):(cof n (Rows en gv) s p).natAbs≤bd 64 32:=by
 refine Nat.le_trans (det_bound (M:=64) fun i j hi hj=>?_) (bd_mono 64 (by decide) hn)
 simp only [setR]
 split
 · exact one_bound p j
 · exact Nat.le_trans (row_bound _ _ _ _) (hg i hi)
end Mx
namespace Mx
theorem chs_congr {gv gv':Nat→List Nat}:∀ (m k:Nat),(∀ i,k≤i→i < k+m→gv i=gv' i)→chs gv m k=chs gv' m k
 | 0,_,_=>rfl
 | m+1,k,h=>by
  show (gv k).flatMap _=(gv' k).flatMap _
  rw [h k (Nat.le_refl _) (by omega),chs_congr m (k+1) fun i h1 h2=>h i (by omega) (by omega)]
theorem chs_split {gv:Nat→List Nat}:∀ (d m k0:Nat),d < m→(∀ i,k0≤i→i < k0+d→∃ c,gv i=[c]) →
 chs gv m k0=(gv (k0+d)).flatMap fun x=>chs (putG gv (k0+d) [x]) m k0
 | 0,m,k0,hd,_=>by
  cases m with
  | zero=>omega
  | succ m =>
   show (gv k0).flatMap _=(gv k0).flatMap _
   congr 1
   funext x
   show _=(putG gv k0 [x] k0).flatMap _
   have e:putG gv k0 [x] k0=[x]:=by simp [putG]
   rw [show k0+0=k0 from rfl,e,chs_congr (gv:=putG gv k0 [x]) (gv':=gv) m (k0+1) fun i h1 h2=>by simp [putG,show i ≠ k0 by omega]]
   simp
 | d+1,m,k0,hd,hs=>by
  cases m with
  | zero=>omega
  | succ m =>
   obtain ⟨c,hc⟩:=hs k0 (Nat.le_refl _) (by omega)
   show (gv k0).flatMap _=_
   have ih:=chs_split d m (k0+1) (by omega) fun i h1 h2=>hs i (by omega) (by omega)
   rw [show k0+1+d=k0+(d+1) by omega] at ih
   rw [hc,ih]
   simp only [List.flatMap_cons,List.flatMap_nil,List.append_nil,List.map_flatMap]
   congr 1
   funext x
   show _=(putG gv (k0+(d+1)) [x] k0).flatMap _
   have e:putG gv (k0+(d+1)) [x] k0=[c]:=by simp [putG,hc]
   rw [e]
   simp
theorem trs_split {n k:Nat} {en:Nat→Nat} {gv:Nat→List Nat} (hk:k < n) (hs:∀ i,i < k→∃ c,gv i=[c]):trs n en gv=(gv k).flatMap fun x=>trs n en (putG gv k [x]):=by
 unfold trs
 rw [chs_split k n 0 hk fun i _ h=>hs i (by omega),List.filter_flatMap]
 simp
theorem chs_set {gv:Nat→List Nat} {c:Nat→Nat}:∀ (m k:Nat),(∀ i,k≤i→i < k+m→gv i=[c i])→chs gv m k=[(List.range' k m).map c]
 | 0,_,_=>rfl
 | m+1,k,h=>by
  show (gv k).flatMap _=_
  rw [h k (Nat.le_refl _) (by omega),chs_set m (k+1) fun i h1 h2=>h i (by omega) (by omega)]
  simp [List.range'_succ]
def lexLt:List Nat→List Nat→Prop
 | x :: xs,y :: ys=>x < y∨(x=y∧lexLt xs ys)
 | _,_=>False
theorem chs_sorted {gv:Nat→List Nat}:∀ (m k:Nat),(∀ i,k≤i→i < k+m→(gv i).Pairwise (· < ·))→(chs gv m k).Pairwise lexLt
 | 0,_,_=>by simp [chs]
 | m+1,k,h=>by
  have ih:=chs_sorted m (k+1) fun i h1 h2=>h i (by omega) (by omega)
  have h0:=h k (Nat.le_refl _) (by omega)
  show ((gv k).flatMap fun x=>(chs gv m (k+1)).map (x :: ·)).Pairwise lexLt
  rw [List.pairwise_flatMap]
  refine ⟨fun x _=>?_,?_⟩
  · rw [List.pairwise_map]
    exact ih.imp fun hab=>.inr ⟨rfl,hab⟩
  · refine h0.imp fun {a b} hab=>?_
    intro x hx y hy
    obtain ⟨u,_,rfl⟩:=List.mem_map.mp hx
    obtain ⟨v,_,rfl⟩:=List.mem_map.mp hy
    exact .inl hab
theorem lexLt_irrefl:∀ c:List Nat,¬ lexLt c c
 | [],h=>h
 | x :: xs,h=>by
  rcases h with h | ⟨_,h⟩
  · omega
  · exact lexLt_irrefl xs h
theorem trs_sorted {n:Nat} {en:Nat→Nat} {gv:Nat→List Nat} (h:∀ i,i < n→(gv i).Pairwise (· < ·)):(trs n en gv).Pairwise lexLt:=by
 unfold trs
 exact (chs_sorted n 0 fun i _ hi=>h i (by omega)).filter _
theorem trs_inj {n:Nat} {en:Nat→Nat} {gv:Nat→List Nat} (h:∀ i,i < n→(gv i).Pairwise (· < ·)) {i j:Nat} {c:List Nat} (hi:(trs n en gv)[i]?=some c) (hj:(trs n en gv)[j]?=some c):i=j:=by
 have hp:=trs_sorted (en:=en) h
 rw [List.pairwise_iff_getElem] at hp
 obtain ⟨a1,e1⟩:=List.getElem?_eq_some_iff.mp hi
 obtain ⟨a2,e2⟩:=List.getElem?_eq_some_iff.mp hj
 rcases Nat.lt_trichotomy i j with h1 | h1 | h1
 · have:=hp i j a1 a2 h1
   rw [e1,e2] at this
   exact absurd this (lexLt_irrefl c)
 · exact h1
 · have:=hp j i a2 a1 h1
   rw [e1,e2] at this
   exact absurd this (lexLt_irrefl c)
noncomputable def aheadT (n:Nat) (en:Nat→Nat) (gv:Nat→List Nat) (k:Nat) (x:Nat):Nat:=(((gv k).filter fun y=>decide (y < x)).map fun y=>(trs n en (putG gv k [y])).length).sum
theorem filter_lt {xs:List Nat} (h:xs.Pairwise (· < ·)):∀ {l r:List Nat} {x:Nat},xs=l++x :: r→xs.filter (fun y=>decide (y < x))=l:=by
 intro l r x e
 subst e
 rw [List.pairwise_append,List.pairwise_cons] at h
 obtain ⟨_,⟨h2,_⟩,h3⟩:=h
 rw [List.filter_append,List.filter_cons,if_neg (by simp)]
 have a:l.filter (fun y=>decide (y < x))=l:=List.filter_eq_self.mpr fun y hy=>by simpa using h3 y hy x List.mem_cons_self
 have b:r.filter (fun y=>decide (y < x))=[]:=List.filter_eq_nil_iff.mpr fun y hy=>by have:=h2 y hy; simp; omega
 rw [a,b,List.append_nil]
theorem ahead_sum {α:Type} (c:α→Nat):∀ l:List α,ahead c l=(l.map c).sum
 | []=>rfl
 | x :: xs=>by
  show c x+ahead c xs=_
  rw [ahead_sum c xs]
  simp
theorem step_at {n k x i:Nat} {en:Nat→Nat} {gv:Nat→List Nat} (hk:k < n) (hs:∀ i,i < k→∃ c,gv i=[c]) (hp:(gv k).Pairwise (· < ·)) (hx:x∈gv k) (hi:i < (trs n en (putG gv k [x])).length) :
 (trs n en gv)[aheadT n en gv k x+i]?=(trs n en (putG gv k [x]))[i]?:=by
 obtain ⟨l,r,e⟩:=List.append_of_mem hx
 rw [trs_split hk hs,get_flatMap]
 have ea:aheadT n en gv k x=ahead (fun x=>(trs n en (putG gv k [x])).length) l:=by
  unfold aheadT
  rw [filter_lt hp e,ahead_sum]
 rw [ea,e,pick_ahead _ l x r i hi]
 rfl
theorem step_pick {n k i:Nat} {en:Nat→Nat} {gv:Nat→List Nat} (hk:k < n) (hs:∀ i,i < k→∃ c,gv i=[c]) (hp:(gv k).Pairwise (· < ·)) (hi:i < (trs n en gv).length) :
 ∃ x j,((gv k).filter fun x=>decide (aheadT n en gv k x≤i)).getLast?=some x∧x∈gv k∧i=aheadT n en gv k x+j∧j < (trs n en (putG gv k [x])).length:=by
 rw [trs_split hk hs,ahead_flatMap] at hi
 obtain ⟨l1,x,r,j,e,e1,e2,_⟩:=pick_some _ _ _ hi
 have hx:∀ {a l r},gv k=l++a :: r→aheadT n en gv k a=ahead (fun x=>(trs n en (putG gv k [x])).length) l:=fun {a l r} ea=>by
  unfold aheadT
  rw [filter_lt hp ea,ahead_sum]
 refine ⟨x,j,?_,by rw [e]; simp,by rw [hx e]; exact e1,e2⟩
 conv=>lhs; rw [e]
 rw [List.filter_append,List.filter_cons,if_pos (by rw [decide_eq_true_eq,hx e]; omega)]
 have hr:r.filter (fun y=>decide (aheadT n en gv k y≤i))=[]:=by
  refine List.filter_eq_nil_iff.mpr fun y hy=>?_
  obtain ⟨r1,r2,er⟩:=List.append_of_mem hy
  have:=hx (a:=y) (l:=l1++x :: r1) (r:=r2) (by rw [e,er]; simp)
  rw [ahead_append] at this
  have h2:ahead (fun x=>(trs n en (putG gv k [x])).length) (x :: r1)=(trs n en (putG gv k [x])).length+ahead (fun x=>(trs n en (putG gv k [x])).length) r1:=rfl
  simp only [decide_eq_true_eq]
  omega
 rw [hr]
 simp
end Mx
namespace Mx
end Mx
namespace Mx
theorem iter_short {f:Nat→Nat} {n i r:Nat} (hf:∀ i,i < n→f i < n) (hi:i < n):∀ k,iter f k i=r→∃ t,t < n∧iter f t i=r:=by
 intro k
 induction k using Nat.strongRecOn with
 | ind k ih =>
  intro h
  by_cases hk:k < n
  · exact ⟨k,hk,h⟩
  · obtain ⟨a,b,hab,hbn,e⟩:=two_alike n (fun t=>iter f t i) fun t _=>iter_lt hf t i hi
    refine ih (k - (b - a)) (by omega) ?_
    have e1:k=(k - b)+b:=by omega
    have e2:k - (b - a)=(k - b)+a:=by omega
    rw [e2,iter_add]
    rw [e1,iter_add] at h
    have e:iter f a i=iter f b i:=e
    rw [e]
    exact h
theorem outs_leads {n s m:Nat} {en en' g:Nat→Nat} (hs:s < n) (hm:g s=m) (hn:en' m=n) (he:∀ i,i < n→i ≠ s→en' (g i)=en (g i)∧en (g i) < n):outs n en' g↔leads n s en g:=by
 constructor
 · intro o i hi
   obtain ⟨t,ht⟩:=o i (by omega)
   have:∀ t i,i < n→iter (fun i=>if i=n then n else en' (g i)) t i=n→∃ k,iter (fun i=>if i=s then s else en (g i)) k i=s:=by
    intro t
    induction t with
    | zero=>intro i hi h; have:i=n:=h; omega
    | succ t ih =>
     intro i hi h
     by_cases e:i=s
     · exact ⟨0,e⟩
     · have h:iter (fun i=>if i=n then n else en' (g i)) t (if i=n then n else en' (g i))=n:=h
       rw [if_neg (by omega),(he i hi e).1] at h
       obtain ⟨k,hk⟩:=ih _ (he i hi e).2 h
       refine ⟨k+1,?_⟩
       show iter _ k (if i=s then s else en (g i))=s
       rw [if_neg e]
       exact hk
   exact this t i hi ht
 · intro l i hi
   by_cases hin:i=n
   · exact ⟨0,hin⟩
   · obtain ⟨k,hk⟩:=l i (by omega)
     have:∀ k i,i < n→iter (fun i=>if i=s then s else en (g i)) k i=s→∃ t,iter (fun i=>if i=n then n else en' (g i)) t i=n:=by
      intro k
      induction k with
      | zero =>
       intro i hi h
       have h:i=s:=h
       refine ⟨1,?_⟩
       show (if i=n then n else en' (g i))=n
       rw [if_neg (by omega),h,hm,hn]
      | succ k ih =>
       intro i hi h
       by_cases e:i=s
       · refine ⟨1,?_⟩
         show (if i=n then n else en' (g i))=n
         rw [if_neg (by omega),e,hm,hn]
       · have h:iter (fun i=>if i=s then s else en (g i)) k (if i=s then s else en (g i))=s:=h
         rw [if_neg e] at h
         obtain ⟨t,ht⟩:=ih _ (he i hi e).2 h
         refine ⟨t+1,?_⟩
         show iter _ t (if i=n then n else en' (g i))=n
         rw [if_neg (by omega),(he i hi e).1]
         exact ht
     exact this k i (by omega) hk
end Mx
namespace Mx
end Mx
namespace Mx
inductive Reach (st en:Nat→Nat) (m s:Nat):Nat→Prop
 | base:Reach st en m s s
 | step {j:Nat}:j < m→Reach st en m s (st j)→Reach st en m s (en j)
theorem reach_iff {st en:Nat→Nat} {m s:Nat} {S:Nat→Prop} (h0:S s) (hc:∀ j,j < m→S (st j)→S (en j)) (hs:∀ p,S p→Reach st en m s p) (p:Nat):S p↔Reach st en m s p:=by
 refine ⟨hs p,fun h=>?_⟩
 induction h with
 | base=>exact h0
 | step hj _ ih=>exact hc _ hj ih
end Mx
namespace Mx
def flat (n:Nat) (rem:Nat→List Nat):List Nat:=(List.range n).flatMap rem
def putL (rem:Nat→List Nat) (p:Nat) (xs:List Nat):Nat→List Nat:=fun q=>if q=p then xs else rem q
theorem flat_succ (n:Nat) (rem:Nat→List Nat):flat (n+1) rem=flat n rem++rem n:=by
 simp [flat,List.range_succ]
theorem flat_congr {n:Nat} {a b:Nat→List Nat} (h:∀ q,q < n→a q=b q):flat n a=flat n b:=by
 induction n with
 | zero=>rfl
 | succ n ih=>rw [flat_succ,flat_succ,ih fun q hq=>h q (by omega),h n (by omega)]
theorem flat_put {n p:Nat} {rem:Nat→List Nat} {x:Nat} {xs:List Nat} (hp:p < n) (e:rem p=x :: xs):(flat n rem).Perm (x :: flat n (putL rem p xs)):=by
 induction n with
 | zero=>omega
 | succ n ih =>
  rw [flat_succ,flat_succ]
  by_cases h:p=n
  · subst h
    have e1:flat p (putL rem p xs)=flat p rem:=flat_congr fun q hq=>by
     simp only [putL]; rw [if_neg (by omega)]
    have e2:putL rem p xs p=xs:=by simp [putL]
    rw [e1,e2,e]
    exact List.perm_middle
  · have e2:putL rem p xs n=rem n:=by
     simp only [putL]; rw [if_neg (by omega)]
    rw [e2]
    exact (ih (by omega)).append_right _
theorem mem_flat {n:Nat} {rem:Nat→List Nat} {x:Nat}:x∈flat n rem↔∃ q,q < n∧x∈rem q:=by
 simp [flat,List.mem_flatMap]
def key (n s p:Nat) (en:Nat→Nat) (rem:Nat→List Nat):Prop:=∀ q,q < n→(rem q).length+(if q=s then 1 else 0)=(flat n rem).countP (fun x=>en x == q)+(if q=p then 1 else 0)
theorem key_step {n s p x:Nat} {en:Nat→Nat} {rem:Nat→List Nat} {xs:List Nat} (hp:p < n) (e:rem p=x :: xs) (h:key n s p en rem):key n s (en x) en (putL rem p xs):=fun q hq=>by
 have h1:=h q hq
 rw [(flat_put hp e).countP_eq,List.countP_cons] at h1
 by_cases h2:q=p
 · subst h2
   have e2:putL rem q xs q=xs:=by simp [putL]
   rw [e2]
   rw [e,List.length_cons] at h1
   by_cases h3:q=en x
   · rw [← h3] at h1 ⊢
     simp at h1 ⊢
     omega
   · rw [if_neg h3]
     have:(en x == q)=false:=by simpa using fun z=>h3 z.symm
     rw [this] at h1
     simp at h1 ⊢
     omega
 · have e2:putL rem p xs q=rem q:=by simp [putL,h2]
   rw [e2]
   rw [if_neg h2] at h1
   by_cases h3:q=en x
   · rw [if_pos h3]
     have:(en x == q)=true:=by simpa using h3.symm
     rw [this] at h1
     simp at h1 ⊢
     omega
   · rw [if_neg h3]
     have:(en x == q)=false:=by simpa using fun z=>h3 z.symm
     rw [this] at h1
     simp at h1 ⊢
     omega
theorem key_go {n s p:Nat} {en:Nat→Nat} {rem:Nat→List Nat} (hp:p < n) (hs:p ≠ s) (h:key n s p en rem):rem p ≠ []:=fun z=>by
 have:=h p hp
 rw [z,if_neg hs,if_pos rfl] at this
 simp at this
theorem key_end {n s:Nat} {en la:Nat→Nat} {rem:Nat→List Nat} (h:key n s s en rem) (hs:rem s=[]) (hl:∀ q,q < n→rem q ≠ []→la q∈rem q) (hx:∀ q x,q < n→x∈rem q→en x < n) (ld:leads n s en la):∀ q,q < n→rem q=[]:=fun q hq=>by
 refine Classical.byContradiction fun hne=>?_
 obtain ⟨k,hk⟩:=ld q hq
 have go:∀ k q,q < n→rem q ≠ []→iter (fun i=>if i=s then s else en (la i)) k q=s→False:=by
  intro k
  induction k with
  | zero =>
   intro q hq hne e
   have e':q=s:=e
   rw [e'] at hne
   exact hne hs
  | succ k ih =>
   intro q hq hne e
   have hqs:q ≠ s:=fun z=>by rw [z] at hne; exact hne hs
   have e':iter (fun i=>if i=s then s else en (la i)) k (if q=s then s else en (la q))=s:=e
   rw [if_neg hqs] at e'
   have hm:=hl q hq hne
   have hu:=hx q _ hq hm
   refine ih (en (la q)) hu (fun z=>?_) e'
   have h1:=h (en (la q)) hu
   rw [z] at h1
   have h2:0 < (flat n rem).countP (fun x=>en x == en (la q)):=List.countP_pos_iff.mpr ⟨la q,mem_flat.mpr ⟨q,hq,hm⟩,by simp⟩
   rw [List.length_nil] at h1
   split at h1 <;> omega
 exact go k q hq hne hk
def walk (en:Nat→Nat):Nat→Nat→(Nat→List Nat)→List Nat
 | 0,_,_=>[]
 | k+1,p,rem=>match rem p with
  | []=>[]
  | x :: xs=>x :: walk en k (en x) (putL rem p xs)
def path (st en:Nat→Nat):Nat→List Nat→Nat→Prop
 | p,[],e=>p=e
 | p,x :: W,e=>st x=p∧path st en (en x) W e
theorem flat_nil {n:Nat} {rem:Nat→List Nat} (h:∀ q,q < n→rem q=[]):flat n rem=[]:=by
 rw [List.eq_nil_iff_forall_not_mem]
 intro x hx
 obtain ⟨q,hq,hm⟩:=mem_flat.mp hx
 rw [h q hq] at hm
 cases hm
theorem walk_all {n s:Nat} {st en la:Nat→Nat} (ld:leads n s en la):∀ (k p:Nat) (rem:Nat→List Nat),(flat n rem).length=k→p < n→key n s p en rem→(∀ q,q < n→rem q ≠ []→(rem q).getLast?=some (la q)∨q=s)→(∀ q x,q < n→x∈rem q→st x=q∧en x < n) →
 (walk en k p rem).Perm (flat n rem)∧path st en p (walk en k p rem) s∧∀ q,q < n→(walk en k p rem).filter (fun x=>st x == q)=rem q
 | 0,p,rem,hk,hp,K,hl,hx=>by
  have e:flat n rem=[]:=List.length_eq_zero_iff.mp hk
  have hq:∀ q,q < n→rem q=[]:=fun q hq=>by
   rw [List.eq_nil_iff_forall_not_mem]
   intro x hm
   have:x∈flat n rem:=mem_flat.mpr ⟨q,hq,hm⟩
   rw [e] at this
   cases this
  refine ⟨by rw [e]; exact .refl _,?_,fun q h=>(hq q h).symm⟩
  refine Classical.byContradiction fun z=>?_
  exact key_go hp z K (hq p hp)
 | k+1,p,rem,hk,hp,K,hl,hx=>by
  have hne:rem p ≠ []:=by
   by_cases hs:p=s
   · subst hs
     intro z
     have:=key_end K z (fun q hq hn=>?_) (fun q x hq hm=>(hx q x hq hm).2) ld
     · rw [flat_nil this] at hk
       cases hk
     · rcases hl q hq hn with h | h
       · exact List.mem_of_getLast? h
       · rw [h] at hn; exact absurd z hn
   · exact key_go hp hs K
  match e:rem p,hne with
  | x :: xs,_ =>
   have P:=flat_put hp e
   have hxp:=hx p x hp (by rw [e]; exact List.mem_cons_self)
   have sub:∀ q y,y∈putL rem p xs q→y∈rem q:=fun q y hy=>by
    simp only [putL] at hy
    split at hy
    · rename_i h; rw [h,e]; exact List.mem_cons_of_mem _ hy
    · exact hy
   obtain ⟨h1,h2,h3⟩:=walk_all (st:=st) ld k (en x) (putL rem p xs) (by have:=P.length_eq; rw [hk,List.length_cons] at this; omega) hxp.2 (key_step hp e K) (fun q hq hn=>by
    by_cases h:q=p
    · subst h
      have e2:putL rem q xs q=xs:=by simp [putL]
      rw [e2] at hn ⊢
      rcases hl q hq (by rw [e]; simp) with h | h
      · left
        rw [e] at h
        rw [← h]
        match xs,hn with
        | y :: ys,_=>rfl
      · exact .inr h
    · have e2:putL rem p xs q=rem q:=by simp [putL,h]
      rw [e2] at hn ⊢
      exact hl q hq hn) (fun q y hq hy=>hx q y hq (sub q y hy))
   have ew:walk en (k+1) p rem=x :: walk en k (en x) (putL rem p xs):=by
    show (match rem p with | []=>[] | x :: xs=>x :: walk en k (en x) (putL rem p xs))=_
    rw [e]
   rw [ew]
   refine ⟨(h1.cons x).trans P.symm,⟨hxp.1,h2⟩,fun q hq=>?_⟩
   rw [List.filter_cons,h3 q hq,hxp.1]
   by_cases h:q=p
   · subst h
     simp [putL,e]
   · have:(p == q)=false:=by simpa using fun z=>h z.symm
     simp [putL,h,this]
inductive Comes (st en:Nat→Nat) (s:Nat) (W:List Nat):Nat→Prop
 | here:Comes st en s W s
 | on {x:Nat} (W1 W2:List Nat):W=W1++x :: W2→(∀ y∈W2,st y ≠ st x)→Comes st en s W (en x)→Comes st en s W (st x)
theorem Comes.cons {st en:Nat→Nat} {s:Nat} {W:List Nat} {v:Nat} (z:Nat) (h:Comes st en s W v):Comes st en s (z :: W) v:=by
 induction h with
 | here=>exact .here
 | on W1 W2 e hn _ ih=>exact .on (z :: W1) W2 (by rw [e]; rfl) hn ih
theorem path_comes {st en:Nat→Nat} {s:Nat}:∀ (W:List Nat) (p:Nat),path st en p W s→∀ x∈W,Comes st en s W (st x)
 | [],_,_,_,h=>by cases h
 | z :: W,p,⟨h1,h2⟩,x,hx=>by
  have ih:=path_comes W (en z) h2
  by_cases hw:∃ y∈W,st y=st x
  · obtain ⟨y,hy,e⟩:=hw
    rw [← e]
    exact (ih y hy).cons z
  · have hxz:x=z:=by
     rcases List.mem_cons.mp hx with h | h
     · exact h
     · exact absurd ⟨x,h,rfl⟩ hw
    subst hxz
    refine .on [] W rfl (fun y hy e=>hw ⟨y,hy,e⟩) ?_
    match W,h2,ih with
    | [],h2,_=>rw [show en x=s from h2]; exact .here
    | y :: W',h2,ih =>
     have e:st y=en x:=h2.1
     have:=ih y List.mem_cons_self
     rw [e] at this
     exact this.cons x
theorem last_of {st:Nat→Nat} {W W1 W2:List Nat} {x:Nat} (e:W=W1++x :: W2) (h:∀ y∈W2,st y ≠ st x):(W.filter fun y=>st y == st x).getLast?=some x:=by
 have:W2.filter (fun y=>st y == st x)=[]:=by
  rw [List.filter_eq_nil_iff]
  intro y hy
  simpa using h y hy
 rw [e,List.filter_append,List.filter_cons]
 simp [this]
theorem comes_iter {st en la:Nat→Nat} {s:Nat} {W:List Nat} (hla:∀ v,v ≠ s→∀ x,(W.filter fun y=>st y == v).getLast?=some x→la v=x) {v:Nat} (h:Comes st en s W v):∃ k,iter (fun i=>if i=s then s else en (la i)) k v=s:=by
 induction h with
 | here=>exact ⟨0,rfl⟩
 | on W1 W2 e hn _ ih =>
  rename_i x _
  by_cases hs:st x=s
  · exact ⟨0,hs⟩
  · obtain ⟨k,hk⟩:=ih
    refine ⟨k+1,?_⟩
    show iter _ k (if st x=s then s else en (la (st x)))=s
    rw [if_neg hs,hla _ hs x (last_of e hn)]
    exact hk
end Mx
namespace Mx
def fact:Nat→Nat
 | 0=>1
 | n+1=>(n+1) * fact n
theorem fact_pos:∀ n,0 < fact n
 | 0=>Nat.one_pos
 | n+1=>Nat.mul_pos (Nat.succ_pos _) (fact_pos n)
def orderAt:Nat→List Nat→Nat→List Nat
 | 0,_,_=>[]
 | k+1,left,num=>left.getD (num % (k+1)) 0 :: orderAt k (left.eraseIdx (num % (k+1))) (num / (k+1))
def orderNum:List Nat→List Nat→Nat
 | _,[]=>0
 | left,x :: rest=>left.idxOf x+left.length * orderNum (left.eraseIdx (left.idxOf x)) rest
theorem erase_perm {left:List Nat} {i:Nat} (h:i < left.length):(left.getD i 0 :: left.eraseIdx i).Perm left:=by
 have e:left.getD i 0=left[i]:=by rw [List.getD_eq_getElem?_getD]; simp [h]
 rw [e]
 have:left=left.take i++left[i] :: left.drop (i+1):=by simp
 rw [List.eraseIdx_eq_take_drop_succ]
 conv=>rhs; rw [this]
 exact List.perm_middle.symm
theorem order_perm:∀ (k:Nat) (left:List Nat) (num:Nat),left.length=k→(orderAt k left num).Perm left
 | 0,left,num,h=>by
  rw [List.length_eq_zero_iff.mp h]
  exact List.Perm.refl _
 | k+1,left,num,h=>by
  have hi:num % (k+1) < left.length:=by rw [h]; exact Nat.mod_lt _ (Nat.succ_pos _)
  refine List.Perm.trans (List.Perm.cons _ (order_perm k _ _ ?_)) (erase_perm hi)
  rw [List.length_eraseIdx,if_pos hi,h]
  rfl
theorem idx_getD {left:List Nat} (hn:left.Nodup) {i:Nat} (h:i < left.length):left.idxOf (left.getD i 0)=i:=by
 have e:left.getD i 0=left[i]:=by rw [List.getD_eq_getElem?_getD]; simp [h]
 rw [e]
 exact List.Nodup.idxOf_getElem hn i h
theorem orderNum_at:∀ (k:Nat) (left:List Nat) (num:Nat),left.length=k→left.Nodup→num < fact k→orderNum left (orderAt k left num)=num
 | 0,left,num,h,hn,hm=>by
  have:num < 1:=hm
  show 0=num
  omega
 | k+1,left,num,h,hn,hm=>by
  have hi:num % (k+1) < left.length:=by rw [h]; exact Nat.mod_lt _ (Nat.succ_pos _)
  show left.idxOf (left.getD (num % (k+1)) 0)+left.length * orderNum (left.eraseIdx (left.idxOf (left.getD (num % (k+1)) 0))) (orderAt k (left.eraseIdx (num % (k+1))) (num / (k+1)))=num
  rw [idx_getD hn hi,orderNum_at k _ (num / (k+1)) ?_ ?_ ?_,h]
  · exact Nat.mod_add_div num (k+1)
  · rw [List.length_eraseIdx,if_pos hi,h]
    rfl
  · exact hn.sublist (List.eraseIdx_sublist _ _)
  · rw [Nat.div_lt_iff_lt_mul (Nat.succ_pos _),Nat.mul_comm]
    exact hm
theorem orderNum_lt:∀ (order left:List Nat),order.Perm left→left.Nodup→orderNum left order < fact left.length∧orderAt left.length left (orderNum left order)=order
 | [],left,h,_=>by
  have:left=[]:=h.symm.eq_nil
  subst this
  exact ⟨Nat.one_pos,rfl⟩
 | x :: rest,left,h,hn=>by
  have hx:x∈left:=h.subset List.mem_cons_self
  have hi:left.idxOf x < left.length:=List.idxOf_lt_length_iff.mpr hx
  have hg:left.getD (left.idxOf x) 0=x:=by
   rw [List.getD_eq_getElem?_getD]
   simp [hi]
  have hp:rest.Perm (left.eraseIdx (left.idxOf x)):=by
   have:=erase_perm hi
   rw [hg] at this
   exact (List.perm_cons x).mp (h.trans this.symm)
  have hl:left.length=(left.eraseIdx (left.idxOf x)).length+1:=by
   rw [List.length_eraseIdx,if_pos hi]
   omega
  obtain ⟨a,b⟩:=orderNum_lt rest _ hp (hn.sublist (List.eraseIdx_sublist _ _))
  have e:orderNum left (x :: rest)=left.idxOf x+left.length * orderNum (left.eraseIdx (left.idxOf x)) rest:=rfl
  have hm:(left.idxOf x+left.length * orderNum (left.eraseIdx (left.idxOf x)) rest) % left.length=left.idxOf x:=by
   rw [Nat.add_mul_mod_self_left]
   exact Nat.mod_eq_of_lt hi
  have hd:(left.idxOf x+left.length * orderNum (left.eraseIdx (left.idxOf x)) rest) / left.length=orderNum (left.eraseIdx (left.idxOf x)) rest:=by
   rw [Nat.add_mul_div_left _ _ (by omega),Nat.div_eq_of_lt hi,Nat.zero_add]
  constructor
  · rw [e]
    conv=>rhs; rw [hl]
    show _ < ((left.eraseIdx (left.idxOf x)).length+1) * fact (left.eraseIdx (left.idxOf x)).length
    rw [← hl]
    calc left.idxOf x+left.length * orderNum (left.eraseIdx (left.idxOf x)) rest
     < left.length+left.length * orderNum (left.eraseIdx (left.idxOf x)) rest:=by omega
     _=left.length * (orderNum (left.eraseIdx (left.idxOf x)) rest+1):=by rw [Nat.mul_add]; omega
     _≤left.length * fact (left.eraseIdx (left.idxOf x)).length:=Nat.mul_le_mul_left _ a
  · rw [e]
    generalize hN:left.idxOf x+left.length * orderNum (left.eraseIdx (left.idxOf x)) rest=N at *
    have hr:orderAt left.length left N=left.getD (N % left.length) 0 :: orderAt (left.eraseIdx (left.idxOf x)).length (left.eraseIdx (N % left.length)) (N / left.length):=by
     rw [hl]
     rfl
    rw [hr,hm,hd,hg,b]
end Mx
namespace Mx
theorem orderAt_mod:∀ (k:Nat) (left:List Nat) (num:Nat),orderAt k left (num % fact k)=orderAt k left num
 | 0,_,_=>rfl
 | k+1,left,num=>by
  have h1:num % fact (k+1) % (k+1)=num % (k+1):=Nat.mod_mul_right_mod num (k+1) (fact k)
  have h2:num % fact (k+1) / (k+1)=(num / (k+1)) % fact k:=Nat.mod_mul_right_div_self num (k+1) (fact k)
  show left.getD (num % fact (k+1) % (k+1)) 0 :: orderAt k (left.eraseIdx (num % fact (k+1) % (k+1))) (num % fact (k+1) / (k+1))=_
  rw [h1,h2,orderAt_mod k]
  rfl
def prodTo (b:Nat→Nat):Nat→Nat
 | 0=>1
 | p+1=>prodTo b p * b p
def sumTo (b d:Nat→Nat):Nat→Nat
 | 0=>0
 | p+1=>sumTo b d p+prodTo b p * d p
theorem prodTo_pos {b:Nat→Nat}:∀ {n:Nat},(∀ p,p < n→0 < b p)→0 < prodTo b n
 | 0,_=>Nat.one_pos
 | n+1,h=>Nat.mul_pos (prodTo_pos fun p hp=>h p (by omega)) (h n (by omega))
theorem sum_digits (b:Nat→Nat) (num:Nat):∀ n,sumTo b (fun p=>num / prodTo b p % b p) n=num % prodTo b n
 | 0=>by show 0=num % 1; omega
 | n+1=>by
  show sumTo b _ n+prodTo b n * (num / prodTo b n % b n)=num % (prodTo b n * b n)
  rw [sum_digits b num n,Nat.mod_mul]
structure NetN (n m:Nat) (st en:Nat→Nat):Prop where
 m1:0 < m
 stl:∀ j,j < m→st j < n
 enl:∀ j,j < m→en j < n
 exi:∀ p,p < n→∃ j,j < m∧st j=p
def exN (m:Nat) (st:Nat→Nat) (p:Nat):List Nat:=(List.range m).filter fun j=>st j == p
theorem mem_exN {m p j:Nat} {st:Nat→Nat}:j∈exN m st p↔j < m∧st j=p:=by simp [exN]
theorem exN_sorted (m:Nat) (st:Nat→Nat) (p:Nat):(exN m st p).Pairwise (· < ·):=List.Pairwise.filter _ List.pairwise_lt_range
theorem exN_nodup (m:Nat) (st:Nat→Nat) (p:Nat):(exN m st p).Nodup:=List.Pairwise.filter _ List.nodup_range
def Even (n m:Nat) (st en:Nat→Nat):Prop:=∀ p,p < n→(List.range m).countP (fun j=>st j == p)=(List.range m).countP fun j=>en j == p
theorem flat_filter {n:Nat} {st:Nat→Nat}:∀ (l:List Nat),(∀ x∈l,st x < n)→(flat n fun p=>l.filter fun j=>st j == p).Perm l
 | [],_=>by
  have:flat n (fun p=>([]:List Nat).filter fun j=>st j == p)=[]:=flat_nil fun q _=>rfl
  rw [this]
 | x :: l,h=>by
  have ih:=flat_filter l fun y hy=>h y (List.mem_cons_of_mem _ hy)
  have hx:=h x List.mem_cons_self
  have e:(fun p=>(x :: l).filter fun j=>st j == p)=fun p=>if p=st x then x :: l.filter (fun j=>st j == p) else l.filter fun j=>st j == p:=by
   funext p
   rw [List.filter_cons]
   by_cases e:p=st x
   · rw [if_pos e,e]; simp
   · rw [if_neg e]
     have:(st x == p)=false:=by simpa using fun z=>e z.symm
     rw [this]
     simp
  have e2:(flat n fun p=>(x :: l).filter fun j=>st j == p).Perm (x :: flat n (putL (fun p=>(x :: l).filter fun j=>st j == p) (st x) (l.filter fun j=>st j == st x))):=flat_put hx (by simp)
  refine e2.trans (List.Perm.cons x ?_)
  have e3:flat n (putL (fun p=>(x :: l).filter fun j=>st j == p) (st x) (l.filter fun j=>st j == st x))=flat n fun p=>l.filter fun j=>st j == p:=flat_congr fun q _=>by
   unfold putL
   by_cases eq:q=st x
   · rw [if_pos eq,eq]
   · rw [if_neg eq]
     show (x :: l).filter (fun j=>st j == q)=_
     rw [List.filter_cons]
     have:(st x == q)=false:=by simpa using fun z=>eq z.symm
     rw [this]
     simp
  rw [e3]
  exact ih
theorem flat_perm {n:Nat} {a b:Nat→List Nat} (h:∀ p,p < n→(a p).Perm (b p)):(flat n a).Perm (flat n b):=by
 induction n with
 | zero=>exact List.Perm.refl _
 | succ n ih =>
  rw [flat_succ,flat_succ]
  exact (ih fun p hp=>h p (by omega)).append (h n (by omega))
def freeN (m : Nat) (st : Nat → Nat) (x p : Nat) : List Nat := (exN m st p).filter fun j => j != x
theorem free_len {m p x:Nat} {st:Nat→Nat} (hx:x∈exN m st p):(freeN m st x p).length+1=(exN m st p).length∧(x :: freeN m st x p).Perm (exN m st p):=by
 have e:freeN m st x p=(exN m st p).erase x:=by
  unfold freeN
  exact (List.Nodup.erase_eq_filter (exN_nodup m st p) x).symm
 have h:=List.perm_cons_erase hx
 rw [e]
 exact ⟨by have:=h.length_eq; simpa using this.symm,h.symm⟩
def ordr (m:Nat) (st:Nat→Nat) (c:Nat→Nat) (num p:Nat):List Nat :=
 if p=st 0 then 0 :: orderAt (freeN m st 0 p).length (freeN m st 0 p) num else orderAt (freeN m st (c p) p).length (freeN m st (c p) p) num++[c p]
theorem ordr_perm {m p num:Nat} {st c:Nat→Nat} (hm:0 < m) (hc:p ≠ st 0→c p∈exN m st p):(ordr m st c num p).Perm (exN m st p):=by
 unfold ordr
 split
 · rename_i e
   have h0:0∈exN m st p:=mem_exN.mpr ⟨hm,e.symm⟩
   exact ((order_perm _ _ num rfl).cons 0).trans (free_len h0).2
 · rename_i e
   have:=(order_perm _ (freeN m st (c p) p) num rfl).append_right [c p]
   exact this.trans (List.perm_append_comm.trans (free_len (hc e)).2)
def degB (m:Nat) (st:Nat→Nat) (p:Nat):Nat:=fact ((exN m st p).length - 1)
def ringN (m:Nat) (st en:Nat→Nat) (c:Nat→Nat) (num:Nat):List Nat:=walk en m (st 0) fun p=>ordr m st c (num / prodTo (degB m st) p) p
def isRing (m:Nat) (st en:Nat→Nat) (W:List Nat):Prop:=path st en (st 0) W (st 0)∧W.Perm (List.range m)∧W.head?=some 0
section
variable {n m:Nat} {st en:Nat→Nat}
theorem orders_all (N:NetN n m st en) {o:Nat→List Nat} (h:∀ p,p < n→(o p).Perm (exN m st p)):(flat n o).Perm (List.range m) :=
 (flat_perm h).trans (flat_filter (List.range m) fun x hx=>N.stl x (List.mem_range.mp hx))
theorem ring_of (N:NetN n m st en) (E:Even n m st en) {c:Nat→Nat} (hc:∀ p,p < n→p ≠ st 0→c p∈exN m st p) (ld:leads n (st 0) en c) (num:Nat) :
 isRing m st en (ringN m st en c num)∧∀ p,p < n→(ringN m st en c num).filter (fun x=>st x == p)=ordr m st c (num / prodTo (degB m st) p) p:=by
 have hs:=N.stl 0 N.m1
 have hp:∀ p,p < n→(ordr m st c (num / prodTo (degB m st) p) p).Perm (exN m st p):=fun p hp=>ordr_perm N.m1 (hc p hp)
 have P:=orders_all N hp
 have w:=walk_all (n:=n) (s:=st 0) (st:=st) (en:=en) (la:=c) ld m (st 0) (fun p=>ordr m st c (num / prodTo (degB m st) p) p) (by rw [P.length_eq]; simp) hs
  (fun q hq=>by
   rw [P.countP_eq,← E q hq,(hp q hq).length_eq]
   unfold exN
   rw [List.countP_eq_length_filter])
  (fun q hq _=>by
   by_cases e:q=st 0
   · exact .inr e
   · refine .inl ?_
     unfold ordr
     rw [if_neg e]
     simp)
  (fun q x hq hx=>by
   obtain ⟨h1,h2⟩:=mem_exN.mp ((hp q hq).subset hx)
   exact ⟨h2,N.enl x h1⟩)
 obtain ⟨w1,w2,w3⟩:=w
 refine ⟨⟨w2,w1.trans P,?_⟩,w3⟩
 have h0:=w3 (st 0) hs
 have e0:ordr m st c (num / prodTo (degB m st) (st 0)) (st 0)=0 :: orderAt (freeN m st 0 (st 0)).length (freeN m st 0 (st 0)) (num / prodTo (degB m st) (st 0)):=by
  unfold ordr
  rw [if_pos rfl]
 rw [e0] at h0
 unfold ringN
 cases hw:walk en m (st 0) (fun p=>ordr m st c (num / prodTo (degB m st) p) p) with
 | nil=>rw [hw] at h0; cases h0
 | cons x W =>
  rw [hw] at w2 h0
  have hx:st x=st 0:=w2.1
  rw [List.filter_cons,hx] at h0
  simp at h0
  simp [h0.1]
theorem digit_of (N:NetN n m st en) {c:Nat→Nat} {p num:Nat} (hp:p < n) (hc:p ≠ st 0→c p∈exN m st p) :
 orderNum (freeN m st (if p=st 0 then 0 else c p) p) (if p=st 0 then (ordr m st c num p).drop 1 else (ordr m st c num p).dropLast)=num % degB m st p:=by
 have key:∀ x,x∈exN m st p→orderNum (freeN m st x p) (orderAt (freeN m st x p).length (freeN m st x p) num)=num % degB m st p:=fun x hx=>by
  rw [← orderAt_mod]
  have hd:degB m st p=fact (freeN m st x p).length:=by
   unfold degB
   rw [← (free_len hx).1]
   rfl
  rw [hd]
  refine orderNum_at _ _ _ rfl ?_ (Nat.mod_lt _ (fact_pos _))
  exact (exN_nodup m st p).filter _
 by_cases e:p=st 0
 · simp only [if_pos e]
   have:(ordr m st c num p).drop 1=orderAt (freeN m st 0 p).length (freeN m st 0 p) num:=by
    unfold ordr
    rw [if_pos e]
    rfl
   rw [this]
   exact key 0 (mem_exN.mpr ⟨N.m1,e.symm⟩)
 · simp only [if_neg e]
   have:(ordr m st c num p).dropLast=orderAt (freeN m st (c p) p).length (freeN m st (c p) p) num:=by
    unfold ordr
    rw [if_neg e]
    simp
   rw [this]
   exact key (c p) (hc e)
theorem ring_leads (N:NetN n m st en) {W:List Nat} (h:isRing m st en W) {c:Nat→Nat} (hc:∀ p,p < n→p ≠ st 0→(W.filter fun x=>st x == p).getLast?=some (c p)):leads n (st 0) en c:=fun i hi=>by
 obtain ⟨j,hj,e⟩:=N.exi i hi
 have hm:j∈W:=h.2.1.symm.subset (List.mem_range.mpr hj)
 have:=path_comes W (st 0) h.1 j hm
 rw [e] at this
 refine comes_iter (fun v hv x hx=>?_) this
 by_cases hvn:v < n
 · have:=hc v hvn hv
   rw [this] at hx
   exact Option.some.inj hx
 · exfalso
   have:x∈W.filter fun y=>st y == v:=List.mem_of_getLast? hx
   rw [List.mem_filter] at this
   have h2:=N.stl x (List.mem_range.mp (h.2.1.subset this.1))
   have h3:st x=v:=by simpa using this.2
   omega
theorem ring_filter {W:List Nat} (h:isRing m st en W) (p:Nat):(W.filter fun x=>st x == p).Perm (exN m st p):=h.2.1.filter _
def restN (st:Nat→Nat) (W:List Nat) (p:Nat):List Nat:=if p=st 0 then (W.filter fun x=>st x == p).drop 1 else (W.filter fun x=>st x == p).dropLast
theorem List.dropLast_concat_getLast' {α:Type} {l:List α} {x:α} (h:l.getLast?=some x):l.dropLast++[x]=l:=by
 cases l with
 | nil=>cases h
 | cons y l =>
  rw [List.getLast?_eq_some_getLast (by simp)] at h
  have:=Option.some.inj h
  rw [← this]
  exact List.dropLast_concat_getLast _
end
end Mx
namespace L2
open PySem PySem.Spec PyProof.Rows Mx
def rowV (n:Nat) (f:Nat→Int):List V:=(List.range n).map fun p=>V.int (f p)
theorem rowV_len (n:Nat) (f:Nat→Int):(rowV n f).length=n:=by simp [rowV]
theorem rowV_get {n p:Nat} (f:Nat→Int) (h:p < n):(rowV n f)[p]?=some (.int (f p)):=by simp [rowV,h]
theorem rowV_some {n p:Nat} {f:Nat→Int} {x:V} (h:(rowV n f)[p]?=some x):x=.int (f p)∧p < n:=by
 have hl:p < n:=by
  obtain ⟨a,_⟩:=List.getElem?_eq_some_iff.mp h
  rwa [rowV_len] at a
 rw [rowV_get f hl] at h
 exact ⟨(Option.some.inj h).symm,hl⟩
theorem rowV_succ (n:Nat) (f:Nat→Int):rowV (n+1) f=rowV n f++[.int (f n)]:=by simp [rowV,List.range_succ]
theorem rowV_congr {n:Nat} {f g:Nat→Int} (h:∀ p,p < n→f p=g p):rowV n f=rowV n g:=List.map_congr_left fun p hp=>by rw [h p (List.mem_range.mp hp)]
theorem nats_get {l:List Nat} {i:Nat} {z:V} (hz:(nats l)[i]?=some z):∃ y:Nat,l[i]?=some y∧z=.int ((y:Nat):Int):=by
 unfold nats at hz
 rw [List.getElem?_map] at hz
 cases h:l[i]? with
 | none=>rw [h] at hz; cases hz
 | some y=>rw [h] at hz; exact ⟨y,rfl,(Option.some.inj hz).symm⟩
theorem nats_len (l:List Nat):(nats l).length=l.length:=by unfold nats; rw [List.length_map]
theorem tms:¬ (("many":Str)="stopped"):=by decide +kernel
def tfl (L:Addr) (m:Int):List (Str × V):=putF "stopped" (.ref L) (putF "many" (.int m) [])
theorem tfl_eq (L:Addr) (m:Int):tfl L m=[(("many":Str),V.int m),(("stopped":Str),V.ref L)]:=by
 unfold tfl
 show putF "stopped" (.ref L) [(("many":Str),V.int m)]=_
 unfold putF
 rw [if_neg tms]
 rfl
theorem tfl_many (L:Addr) (m:Int):(tfl L m).lookup ("many":Str)=some (.int m):=by
 unfold tfl
 rw [lookup_putF,if_neg tms,lookup_putF,if_pos rfl]
theorem tfl_stopped (L:Addr) (m:Int):(tfl L m).lookup ("stopped":Str)=some (.ref L):=by
 unfold tfl
 rw [lookup_putF,if_pos rfl]
theorem tfl_no (L:Addr) (m:Int) {x:Str} (h1:¬ x="many") (h2:¬ x="stopped"):(tfl L m).lookup x=none:=by
 unfold tfl
 rw [lookup_putF,if_neg h2,lookup_putF,if_neg h1]
 all_goals rfl
theorem tfl_len (L:Addr) (m:Int):(tfl L m).length < 1000:=by rw [tfl_eq]; show 2 < 1000; decide
theorem tfl_put1 (L L':Addr) (m:Int):putF "stopped" (.ref L') (tfl L m)=tfl L' m:=by
 rw [tfl_eq,tfl_eq]
 unfold putF
 rw [if_neg tms]
 unfold putF
 rw [if_pos rfl]
theorem tfl_put2 (L:Addr) (m m':Int):putF "many" (.int m') (tfl L m)=tfl L m':=by
 rw [tfl_eq,tfl_eq]
 unfold putF
 rw [if_pos rfl]
structure TallyAt (C:Addr) (H:Hp) (x L:Addr) (rs:List Addr) (n:Nat) (m:Int) (R:Nat→Nat→Int):Prop where
 ob:∃ dx,H x=some (.ins C dx (tfl L m))
 ls:H L=some (.lst (rs.map V.ref))
 ln:rs.length=n
 rw:∀ (s:Nat) (a:Addr),rs[s]?=some a→H a=some (.lst (rowV n (R s)))
theorem TallyAt.same {C:Addr} {H H':Hp} {x L:Addr} {rs:List Addr} {n:Nat} {m:Int} {R:Nat→Nat→Int} (T:TallyAt C H x L rs n m R) (s:Same H H'):TallyAt C H' x L rs n m R :=
 ⟨let ⟨dx,e⟩:=T.ob; ⟨dx,s _ _ e⟩,s _ _ T.ls,T.ln,fun i a h=>s _ _ (T.rw i a h)⟩
theorem TallyAt.get {C:Addr} {H:Hp} {x L:Addr} {rs:List Addr} {n s:Nat} {m:Int} {R:Nat→Nat→Int} (T:TallyAt C H x L rs n m R) (h:s < n):∃ a,rs[s]?=some a∧atI (rs.map V.ref) ((s:Nat):Int)=some (.ref a)∧H a=some (.lst (rowV n (R s))):=by
 have hl:s < rs.length:=by rw [T.ln]; exact h
 refine ⟨rs[s],by simp [hl],atI_nat (by simp [hl]),T.rw s _ (by simp [hl])⟩
theorem row_at {n p:Nat} (f:Nat→Int) (h:p < n):atI (rowV n f) ((p:Nat):Int)=some (.int (f p)):=atI_nat (rowV_get f h)
def shf (R:Nat→Nat→Int) (es:List Nat) (k s:Nat):Int:=(es.map fun e=>R s k - R s e).sum
def chg (m:Int) (R:Nat→Nat→Int) (es:List Nat) (k:Nat):Nat→Nat→Int:=fun s p=>if s=k then R s p else (shf R es k k * R s p - shf R es k s * R k p) / m
theorem lsum_eq:∀ l:List Int,lsum l=l.sum
 | []=>rfl
 | x :: xs=>by show x+lsum xs=_; rw [lsum_eq xs]; simp
theorem shf_det {n k s:Nat} {A:Mat} {R:Nat→Nat→Int} {es:List Nat} (hR:∀ s p,s < n→p < n→R s p=cof n A s p) (hk:k < n) (hs:s < n) (he:∀ e∈es,e < n):shf R es k s=det n (setR A s (rowOf es id k)):=by
 rw [det_shift A id k es hs,lsum_eq]
 unfold shf
 congr 1
 refine List.map_congr_left fun e h=>?_
 rw [hR s k hs hk,hR s e hs (he e h)]
 rfl
theorem chg_cof {n k s p:Nat} {A:Mat} {R:Nat→Nat→Int} {es:List Nat} (hR:∀ s p,s < n→p < n→R s p=cof n A s p) (hk:k < n) (hs:s < n) (hp:p < n) (he:∀ e∈es,e < n) (h0:0 < det n A):chg (det n A) R es k s p=cof n (setR A k (rowOf es id k)) s p:=by
 unfold chg
 by_cases e:s=k
 · rw [if_pos e,hR s p hs hp,e,cof_same]
 · rw [if_neg e,shf_det hR hk hk he,shf_det hR hk hs he,hR s p hs hp,hR k p hk hp]
   exact give_cof A _ hk hs e h0
theorem Big.of_le {i:Int} (h:i.natAbs≤bd 64 32):Big i:=Nat.lt_of_le_of_lt h (Nat.lt_of_lt_of_le bd_big (Nat.pow_le_pow_right (by decide) (by decide)))
structure GiveOk (n k:Nat) (m:Int) (R:Nat→Nat→Int) (es:List Nat):Prop where
 m0:0 < m
 bm:Big m
 bR:∀ s p,s < n→p < n→Big (R s p)
 bs:∀ s,s < n→Big (shf R es k s)
theorem give_ok {n k:Nat} {R:Nat→Nat→Int} {es:List Nat} {en:Nat→Nat} {gv:Nat→List Nat} (hR:∀ s p,s < n→p < n→R s p=cof n (Rows en gv) s p) (hn:n≤32) (hg:∀ i,i < n→(gv i).length≤64) (hk:k < n) (he:∀ e∈es,e < n) (hl:es.length≤64) (h0:0 < det n (Rows en gv)):GiveOk n k (det n (Rows en gv)) R es :=
 ⟨h0,Big.of_le (det_le hn hg),fun s p hs hp=>by rw [hR s p hs hp]; exact Big.of_le (cof_le hn hg),fun s hs=>by
  rw [shf_det hR hk hs he]
  refine Big.of_le (Nat.le_trans (det_bound (M:=64) fun i j hi hj=>?_) (bd_mono 64 (by decide) hn))
  simp only [setR]
  split
  · exact Nat.le_trans (row_bound _ _ _ _) hl
  · exact Nat.le_trans (row_bound _ _ _ _) (hg i hi)⟩
def enR (n:Nat) (ps:List Pr) (j:Nat):Nat:=(ps[j]?.map fun q=>q.2.toNat).getD n
def gvL (ps:List Pr) (l:List Nat) (i:Nat):List Nat:=if i∈l then exitsOf ps i else [ps.length]
def others (n r : Nat) : List Nat := (List.range n).filter fun p => p != r
theorem gvL_put (ps:List Pr) (l:List Nat) (p:Nat):gvL ps (l++[p])=putG (gvL ps l) p (exitsOf ps p):=by
 funext i
 simp only [gvL,putG,List.mem_append,List.mem_singleton]
 by_cases h:i=p
 · simp [h]
 · simp [h]
theorem others_mem {n r p:Nat}:p∈others n r↔p < n∧p ≠ r:=by simp [others]
theorem others_nodup (n r:Nat):(others n r).Nodup:=List.Pairwise.filter _ List.nodup_range
theorem exits_lt {ps:List Pr} {k:Int} {j:Nat} (h:j∈exitsOf ps k):j < ps.length∧(ps.getD j (0,0)).1=k:=by
 unfold exitsOf exitsUp at h
 rw [List.mem_filter,List.mem_range] at h
 exact ⟨h.1,by simpa using h.2⟩
theorem exits_len (ps:List Pr) (k:Int):(exitsOf ps k).length≤ps.length:=exitsUp_len _ _ _
theorem enR_out (n:Nat) (ps:List Pr):enR n ps ps.length=n:=by simp [enR]
theorem enR_in {n j:Nat} {ps:List Pr} (h:j < ps.length):enR n ps j=(ps.getD j (0,0)).2.toNat:=by
 simp [enR,List.getD_eq_getElem?_getD,h]
theorem ends_in {n:Nat} {ps:List Pr} (h:endsOk n ps=true) {q:Pr} (hq:q∈ps):(0≤q.1∧q.1 < n)∧0≤q.2∧q.2 < n:=by
 unfold endsOk at h
 have:=List.all_eq_true.mp h q hq
 rw [Bool.and_eq_true,within_iff,within_iff] at this
 exact this
theorem enR_lt {n j:Nat} {ps:List Pr} (h:endsOk n ps=true) (hj:j < ps.length):enR n ps j < n:=by
 rw [enR_in hj]
 have hm:ps.getD j (0,0)∈ps:=by
  rw [List.getD_eq_getElem?_getD]
  simp [hj]
 have:=ends_in h hm
 omega
theorem gvL_ends {n:Nat} {ps:List Pr} (h:endsOk n ps=true) (l:List Nat) (i x:Nat) (hx:x∈gvL ps l i):enR n ps x≤n:=by
 unfold gvL at hx
 split at hx
 · exact Nat.le_of_lt (enR_lt h (exits_lt hx).1)
 · have:x=ps.length:=by simpa using hx
   rw [this,enR_out]
   exact Nat.le_refl _
theorem gvL_len {ps:List Pr} (hp:ps.length≤64) (l:List Nat) (i:Nat):(gvL ps l i).length≤64:=by
 unfold gvL
 split
 · exact Nat.le_trans (exits_len ps i) hp
 · show 1≤64
   decide
theorem give_step {n p:Nat} {ps:List Pr} {gv:Nat→List Nat} {R:Nat→Nat→Int} (he:endsOk n ps=true) (hn:n≤32) (hg:∀ i,i < n→(gv i).length≤64) (hp:p < n) (hR:∀ s q,s < n→q < n→R s q=cof n (Rows (enR n ps) gv) s q) (h0:0 < det n (Rows (enR n ps) gv))
 (xs:List Nat) (hx:∀ x∈xs,x < ps.length) (hl:xs.length≤64) :
 GiveOk n p (det n (Rows (enR n ps) gv)) R (xs.map (enR n ps))∧shf R (xs.map (enR n ps)) p p=det n (Rows (enR n ps) (putG gv p xs)) ∧
  ∀ s q,s < n→q < n→chg (det n (Rows (enR n ps) gv)) R (xs.map (enR n ps)) p s q=cof n (Rows (enR n ps) (putG gv p xs)) s q:=by
 have hes:∀ e∈xs.map (enR n ps),e < n:=fun e h=>by
  obtain ⟨x,h1,rfl⟩:=List.mem_map.mp h
  exact enR_lt he (hx x h1)
 refine ⟨give_ok hR hn hg hp hes (by simpa using hl) h0,?_,fun s q hs hq=>?_⟩
 · rw [shf_det hR hp hp hes,rowOf_id,Rows_put]
 · rw [chg_cof hR hp hs hq hes h0,rowOf_id,Rows_put]
def cntT (n:Nat) (ps:List Pr) (r:Nat):Int:=det n (Rows (enR n ps) (gvL ps (others n r)))
def psN (ps:List Pr):List (Nat × Nat):=ps.map fun q=>(q.1.toNat,q.2.toNat)
end L2
namespace L2
open PySem PySem.Spec PyProof.Rows Mx
def stR (ps:List Pr) (j:Nat):Nat:=(ps.getD j (0,0)).1.toNat
theorem getD_mem {ps:List Pr} {k:Nat} (h:k < ps.length):ps.getD k (0,0)∈ps:=by
 rw [List.getD_eq_getElem?_getD]
 simp [h]
theorem exits_filter {ps:List Pr} (h:∀ q∈ps,0≤q.1) (i:Nat):exitsOf ps i=(List.range ps.length).filter fun k=>stR ps k == i:=by
 unfold exitsOf exitsUp
 refine List.filter_congr fun k hk=>?_
 have:=h _ (getD_mem (List.mem_range.mp hk))
 unfold stR
 by_cases e:(ps.getD k (0,0)).1=(i:Int)
 · have e2:(ps.getD k (0,0)).1.toNat=i:=by omega
   rw [beq_iff_eq.mpr e,beq_iff_eq.mpr e2]
 · have e2:¬ (ps.getD k (0,0)).1.toNat=i:=by omega
   rw [beq_eq_false_iff_ne.mpr e,beq_eq_false_iff_ne.mpr e2]
theorem ends_nonneg {n:Nat} {ps:List Pr} (h:endsOk n ps=true):∀ q∈ps,0≤q.1:=fun q hq=>(ends_in h hq).1.1
theorem stR_cast {n k:Nat} {ps:List Pr} (h:endsOk n ps=true) (hk:k < ps.length):((stR ps k:Nat):Int)=(ps.getD k (0,0)).1∧stR ps k < n:=by
 have:=ends_in h (getD_mem hk)
 unfold stR
 omega
theorem exits_some {n:Nat} {ps:List Pr} (h:exitsOk n ps=true) {j:Nat} (hj:j < n):∃ k,k < ps.length∧(ps.getD k (0,0)).1=(j:Int):=by
 unfold exitsOk at h
 have:=List.all_eq_true.mp h j (by rw [List.mem_range]; omega)
 obtain ⟨q,hq,e⟩:=List.any_eq_true.mp this
 obtain ⟨k,hk,rfl⟩:=List.getElem_of_mem hq
 refine ⟨k,hk,?_⟩
 rw [List.getD_eq_getElem?_getD]
 simpa [hk] using e
end L2
namespace L2
open PySem PySem.Spec PyProof.Rows Mx
def gvC (n g:Nat) (ps:List Pr) (l:List Nat) (c:Nat→Nat) (j:Nat):List Nat:=if j∈l then [c j] else gvL ps (others n g) j
theorem gvC_nil (n g:Nat) (ps:List Pr) (c:Nat→Nat):gvC n g ps [] c=gvL ps (others n g):=by
 funext j
 simp [gvC]
theorem gvC_put {n g:Nat} {ps:List Pr} {l:List Nat} {c:Nat→Nat} {p x:Nat} (hp:p ∉ l):putG (gvC n g ps l c) p [x]=gvC n g ps (l++[p]) (put c p x):=by
 funext j
 simp only [putG,gvC,put,List.mem_append,List.mem_singleton]
 by_cases h:j=p
 · subst h
   simp
 · by_cases h2:j∈l
   · simp [h,h2]
   · simp [h,h2]
theorem gvC_ends {n g:Nat} {ps:List Pr} (h:endsOk n ps=true) {l:List Nat} {c:Nat→Nat} (hc:∀ j∈l,c j < ps.length) (i x:Nat) (hx:x∈gvC n g ps l c i):enR n ps x≤n:=by
 unfold gvC at hx
 split at hx
 · rename_i hm
   have:x=c i:=by simpa using hx
   rw [this]
   exact Nat.le_of_lt (enR_lt h (hc i hm))
 · exact gvL_ends h _ _ _ hx
theorem gvC_len {n g:Nat} {ps:List Pr} (hp:ps.length≤64) (l:List Nat) (c:Nat→Nat) (i:Nat):(gvC n g ps l c i).length≤64:=by
 unfold gvC
 split
 · show 1≤64
   decide
 · exact gvL_len hp _ _
def aheadR (n:Nat) (ps:List Pr) (R:Nat→Nat→Int) (p:Nat) (x:Int):Int:=(((exitsOf ps p).filter fun (j:Nat)=>decide ((j:Int) < x)).map fun j=>R p p - R p (enR n ps j)).sum
theorem by_one {n p j:Nat} {ps:List Pr} {gv:Nat→List Nat} {R:Nat→Nat→Int} (he:endsOk n ps=true) (hp:p < n) (hj:j < ps.length) (hx:∀ i x,i < n→x∈gv i→enR n ps x≤n) (hR:∀ s q,s < n→q < n→R s q=cof n (Rows (enR n ps) gv) s q) :
 R p p - R p (enR n ps j)=((trs n (enR n ps) (putG gv p [j])).length:Nat):=by
 have hj':=enR_lt he hj
 rw [hR p p hp hp,hR p _ hp hj',← det_trs (fun i x hi hm=>by
  unfold putG at hm
  split at hm
  · have:x=j:=by simpa using hm
    rw [this]
    exact Nat.le_of_lt hj'
  · exact hx i x hi hm),Rows_put,det_shift _ _ _ _ hp]
 show _=(cof n (Rows (enR n ps) gv) p p - cof n (Rows (enR n ps) gv) p (enR n ps j))+0
 omega
theorem sum_nat:∀ l:List Nat,((l.sum:Nat):Int)=(l.map fun (x:Nat)=>(x:Int)).sum
 | []=>rfl
 | x :: xs=>by simp [sum_nat xs]
theorem ahead_eq {n p:Nat} {ps:List Pr} {gv:Nat→List Nat} {R:Nat→Nat→Int} (he:endsOk n ps=true) (hp:p < n) (hg:gv p=exitsOf ps p) (hx:∀ i x,i < n→x∈gv i→enR n ps x≤n) (hR:∀ s q,s < n→q < n→R s q=cof n (Rows (enR n ps) gv) s q) (x:Nat) :
 aheadR n ps R p x=(aheadT n (enR n ps) gv p x:Nat):=by
 unfold aheadR aheadT
 rw [sum_nat,List.map_map,hg]
 have e:((exitsOf ps p).filter fun j=>decide (((j:Nat):Int) < ((x:Nat):Int)))=(exitsOf ps p).filter fun y=>decide (y < x):=List.filter_congr fun y _=>by
  by_cases h:y < x
  · rw [decide_eq_true h,decide_eq_true (by omega)]
  · rw [decide_eq_false h,decide_eq_false (by omega)]
 rw [e]
 congr 1
 refine List.map_congr_left fun j hj=>?_
 rw [by_one he hp (exits_lt (List.mem_filter.mp hj).1).1 hx hR]
 rfl
theorem exits_sorted (ps:List Pr) (k:Int):(exitsOf ps k).Pairwise (· < ·):=List.Pairwise.filter _ List.pairwise_lt_range
theorem others_get {n g i p:Nat} (h:(others n g)[i]?=some p):∀ j,j < p→j ≠ g→j∈(others n g).take i:=fun j hj hne=>by
 have hs:(others n g).Pairwise (· < ·):=List.Pairwise.filter _ List.pairwise_lt_range
 obtain ⟨hi,e⟩:=List.getElem?_eq_some_iff.mp h
 have hp:=others_mem.mp (List.mem_of_getElem? h)
 have hm:j∈others n g:=others_mem.mpr ⟨by omega,hne⟩
 obtain ⟨k,hk,ek⟩:=List.getElem_of_mem hm
 have hki:k < i:=by
  refine Classical.byContradiction fun z=>?_
  rw [List.pairwise_iff_getElem] at hs
  by_cases c:k=i
  · subst c
    rw [e] at ek
    omega
  · have:=hs i k hi hk (by omega)
    rw [e,ek] at this
    omega
 rw [List.mem_take_iff_getElem]
 exact ⟨k,by omega,ek⟩
theorem gvC_set {n g i p:Nat} {ps:List Pr} {c:Nat→Nat} (h:(others n g)[i]?=some p):∀ j,j < p→∃ x,gvC n g ps ((others n g).take i) c j=[x]:=fun j hj=>by
 by_cases e:j=g
 · refine ⟨ps.length,?_⟩
   have h1:j ∉ others n g:=fun z=>(others_mem.mp z).2 e
   have h2:j ∉ (others n g).take i:=fun z=>h1 (List.mem_of_mem_take z)
   unfold gvC gvL
   rw [if_neg h2,if_neg h1]
 · exact ⟨c j,by unfold gvC; rw [if_pos (others_get h j hj e)]⟩
theorem gvC_open {n g i p:Nat} {ps:List Pr} {c:Nat→Nat} (h:(others n g)[i]?=some p):p ∉ (others n g).take i∧gvC n g ps ((others n g).take i) c p=exitsOf ps p:=by
 have hpl:p ∉ (others n g).take i:=fun hm=>by
  obtain ⟨j,hj,ej⟩:=List.getElem_of_mem hm
  have nd:=others_nodup n g
  have hj':j < i:=by
   rw [List.length_take] at hj
   omega
  have e1:(others n g)[j]?=some p:=by
   rw [List.getElem_take] at ej
   rw [← ej]
   exact List.getElem?_eq_getElem _
  obtain ⟨a1,a2⟩:=List.getElem?_eq_some_iff.mp e1
  obtain ⟨b1,b2⟩:=List.getElem?_eq_some_iff.mp h
  rw [List.Nodup,List.pairwise_iff_getElem] at nd
  exact nd j i a1 b1 hj' (by rw [a2,b2])
 refine ⟨hpl,?_⟩
 unfold gvC gvL
 rw [if_neg hpl,if_pos (List.mem_of_getElem? h)]
theorem atI_getLast {xs:List V} {v:V} (h:xs.getLast?=some v):atI xs (-1)=some v:=by
 have e:xs=xs.dropLast++[v]:=by
  cases xs with
  | nil=>cases h
  | cons y l =>
   rw [List.getLast?_eq_some_getLast (by simp)] at h
   have:=Option.some.inj h
   rw [← this]
   exact (List.dropLast_concat_getLast _).symm
 rw [e]
 exact atI_last _ _
theorem nats_last {l:List Nat} {x:Nat} (h:l.getLast?=some x):(nats l).getLast?=some (.int (x:Int)):=by
 unfold nats
 rw [List.getLast?_map,h]
 rfl
def treeUp (n:Nat) (l:List Nat) (c:Nat→Nat):List V:=(List.range n).map fun i=>if i∈l then V.int (c i:Nat) else V.non
theorem treeUp_nil (n:Nat) (c:Nat→Nat):(List.replicate n [V.non]).flatten=treeUp n [] c:=by
 unfold treeUp
 simp [List.map_const']
theorem treeUp_ref {n:Nat} {l:List Nat} {c:Nat→Nat} {as:List Addr} (h:0 < n):as.map V.ref ≠ treeUp n l c:=fun z=>by
 have h1:=congrArg (fun xs:List V=>xs[0]?) z
 simp only [treeUp,List.getElem?_map,List.getElem?_range h,Option.map_some] at h1
 cases e:as[0]? with
 | none=>rw [e] at h1; cases h1
 | some a =>
  rw [e] at h1
  simp only [Option.map_some,Option.some.injEq] at h1
  split at h1 <;> cases h1
theorem treeUp_row {n g:Nat} {l:List Nat} {c:Nat→Nat} {f:Nat→Int} (h:g < n) (hl:g ∉ l):rowV n f ≠ treeUp n l c:=fun z=>by
 have h1:=congrArg (fun xs:List V=>xs[g]?) z
 simp only [treeUp,rowV,List.getElem?_map,List.getElem?_range h,Option.map_some,Option.some.injEq,if_neg hl] at h1
 cases h1
theorem treeUp_put {n p x:Nat} {l:List Nat} {c:Nat→Nat} (hp:p < n) (hl:p ∉ l):(treeUp n l c).set p (.int (x:Nat))=treeUp n (l++[p]) (put c p x):=by
 refine List.ext_getElem (by simp [treeUp]) fun i h1 h2=>?_
 simp only [treeUp,List.getElem_set,List.getElem_map,List.getElem_range,List.mem_append,List.mem_singleton,put]
 by_cases e:p=i
 · subst e
   simp
 · have e':¬ i=p:=fun z=>e z.symm
   simp [e,e']
def treeV (n g:Nat) (c:Nat→Nat):List V:=(List.range n).map fun i=>if i=g then V.non else V.int (c i:Nat)
theorem treeUp_all (n g:Nat) (c:Nat→Nat):treeUp n (others n g) c=treeV n g c:=by
 unfold treeUp treeV
 refine List.map_congr_left fun i hi=>?_
 have hi:=List.mem_range.mp hi
 by_cases e:i=g
 · rw [if_neg (fun z=>(others_mem.mp z).2 e),if_pos e]
 · rw [if_pos (others_mem.mpr ⟨hi,e⟩),if_neg e]
theorem treeV_congr {n g:Nat} {c d:Nat→Nat} (h:∀ i,i < n→i ≠ g→c i=d i):treeV n g c=treeV n g d:=by
 unfold treeV
 refine List.map_congr_left fun i hi=>?_
 by_cases e:i=g
 · rw [if_pos e,if_pos e]
 · rw [if_neg e,if_neg e,h i (List.mem_range.mp hi) e]
theorem treeV_len (n g:Nat) (c:Nat→Nat):(treeV n g c).length=n:=by simp [treeV]
theorem gvC_end {n g:Nat} {ps:List Pr} {c:Nat→Nat} {num:Nat} (he:endsOk n ps=true) (hc:∀ j∈others n g,c j < ps.length) (h:num < (trs n (enR n ps) (gvC n g ps (others n g) c)).length) :
 num=0∧(trs n (enR n ps) (gvC n g ps (others n g) c))[num]?=some ((List.range n).map fun i=>if i=g then ps.length else c i)∧outs n (enR n ps) (fun i=>if i=g then ps.length else c i):=by
 have hs:chs (gvC n g ps (others n g) c) n 0=[(List.range n).map fun i=>if i=g then ps.length else c i]:=by
  have:=chs_set (gv:=gvC n g ps (others n g) c) (c:=fun i=>if i=g then ps.length else c i) n 0 fun i _ hi=>by
   by_cases e:i=g
   · have h1:i ∉ others n g:=fun z=>(others_mem.mp z).2 e
     unfold gvC gvL
     rw [if_neg h1,if_neg h1,if_pos e]
   · unfold gvC
     rw [if_pos (others_mem.mpr ⟨by omega,e⟩),if_neg e]
  rw [this,List.range_eq_range']
 have hget:∀ i,i < n→ofL ((List.range n).map fun i=>if i=g then ps.length else c i) i=if i=g then ps.length else c i:=fun i hi=>by
  simp [ofL,List.getD_eq_getElem?_getD,hi]
 unfold trs at h ⊢
 rw [hs] at h ⊢
 rw [List.filter_cons] at h ⊢
 by_cases o:outs n (enR n ps) (ofL ((List.range n).map fun i=>if i=g then ps.length else c i))
 · rw [if_pos (by simpa using o)] at h ⊢
   have h0:num=0:=by
    have:num < 1:=h
    omega
   subst h0
   refine ⟨rfl,rfl,outs_congr (fun i hi=>?_) (fun i hi=>hget i hi) o⟩
   rw [hget i hi]
   split
   · rw [enR_out]
     exact Nat.le_refl _
   · rename_i e
     exact Nat.le_of_lt (enR_lt he (hc i (others_mem.mpr ⟨hi,e⟩)))
 · rw [if_neg (by simpa using o)] at h
   exact absurd h (by simp)
def listT (n g m:Nat) (c:Nat→Nat):List Nat:=(List.range n).map fun i=>if i=g then m else c i
theorem listT_get {n g m i:Nat} (c:Nat→Nat) (h:i < n):(listT n g m c).getD i 0=if i=g then m else c i:=by
 simp [listT,List.getD_eq_getElem?_getD,h]
theorem mem_trs {n g:Nat} {ps:List Pr} {l:List Nat} {c:Nat→Nat} (hc:∀ j,j < n→j ≠ g→c j∈exitsOf ps j) (hg:g ∉ l) (o:outs n (enR n ps) (ofL (listT n g ps.length c))):listT n g ps.length c∈trs n (enR n ps) (gvC n g ps l c):=by
 unfold trs
 rw [List.mem_filter]
 refine ⟨mem_chs.mpr ⟨by simp [listT],fun i hi=>?_⟩,by simpa using o⟩
 rw [Nat.zero_add,listT_get c hi]
 unfold gvC gvL
 by_cases e:i=g
 · subst e
   rw [if_pos rfl,if_neg hg,if_neg (fun z=>(others_mem.mp z).2 rfl)]
   simp
 · rw [if_neg e]
   split
   · simp
   · rw [if_pos (others_mem.mpr ⟨hi,e⟩)]
     exact hc i hi e
theorem outs_of {n g:Nat} {ps:List Pr} {c:Nat→Nat} (he:endsOk n ps=true) (hg:g < n) (hc:∀ j,j < n→j ≠ g→c j < ps.length):outs n (enR n ps) (ofL (listT n g ps.length c))↔leads n g (enR n ps) c:=by
 have h1:∀ i,i < n→ofL (listT n g ps.length c) i=if i=g then ps.length else c i:=fun i hi=>listT_get c hi
 have hx:∀ i,i < n→enR n ps (if i=g then ps.length else c i)≤n:=fun i hi=>by
  split
  · rw [enR_out]
    exact Nat.le_refl _
  · rename_i e
    exact Nat.le_of_lt (enR_lt he (hc i hi e))
 have h2:outs n (enR n ps) (ofL (listT n g ps.length c))↔outs n (enR n ps) fun i=>if i=g then ps.length else c i :=
  ⟨fun o=>outs_congr (fun i hi=>by rw [h1 i hi]; exact hx i hi) h1 o,fun o=>outs_congr hx (fun i hi=>(h1 i hi).symm) o⟩
 rw [h2,outs_leads (g:=fun i=>if i=g then ps.length else c i) (en:=enR n ps) hg (if_pos rfl) (enR_out n ps) fun i hi hne=>by
  simp only [if_neg hne]
  exact ⟨trivial,enR_lt he (hc i hi hne)⟩]
 have h3:∀ k i,iter (fun i=>if i=g then g else enR n ps (if i=g then ps.length else c i)) k i=iter (fun i=>if i=g then g else enR n ps (c i)) k i:=fun k i=>iter_congr (fun i=>by
  by_cases e:i=g
  · simp [e]
  · simp [e]) k i
 unfold leads
 constructor
 · intro h i hi
   obtain ⟨k,hk⟩:=h i hi
   exact ⟨k,by rw [← h3]; exact hk⟩
 · intro h i hi
   obtain ⟨k,hk⟩:=h i hi
   exact ⟨k,by rw [h3]; exact hk⟩
end L2
namespace L2
open PySem PySem.Spec PyProof.Rows Mx
def unlikeOf (n : Nat) (ps : List Pr) : List Nat := (List.range n).filter fun p => (ps.map (·.1)).count (p : Int) != (ps.map (·.2)).count (p : Int)
abbrev ReachP (n:Nat) (ps:List Pr) (p:Nat):Prop:=Reach (stR ps) (enR n ps) ps.length (stR ps 0) p
open Classical in
noncomputable def apartUp (n : Nat) (ps : List Pr) (i : Nat) : List Nat := (List.range i).filter fun p => !decide (ReachP n ps p)
noncomputable abbrev apartOf (n:Nat) (ps:List Pr):List Nat:=apartUp n ps n
open Classical in
theorem apartUp_succ (n:Nat) (ps:List Pr) (i:Nat):apartUp n ps (i+1)=apartUp n ps i++if ReachP n ps i then [] else [i]:=by
 unfold apartUp
 rw [List.range_succ,List.filter_append,List.filter_cons]
 by_cases c:ReachP n ps i
 · rw [if_pos c,if_neg (by simp [c])]
   rfl
 · rw [if_neg c,if_pos (by simp [c])]
   rfl
theorem in_nats {x:Nat} {rs:List Nat}:inV (V.int (x:Nat)) (nats rs)=decide (x∈rs):=by
 unfold inV nats
 rw [List.any_map]
 refine Bool.eq_iff_iff.mpr ?_
 rw [List.any_eq_true,decide_eq_true_eq]
 constructor
 · rintro ⟨y,hy,e⟩
   have e':((y:Nat):Int)=((x:Nat):Int):=by simpa [eqV] using e
   have:y=x:=by omega
   rw [← this]; exact hy
 · intro hm
   exact ⟨_,hm,by simp [eqV]⟩
theorem nodup_len {rs:List Nat} {n:Nat} (hn:rs.Nodup) (h:∀ p∈rs,p < n):rs.length≤n:=by
 refine Classical.byContradiction fun z=>?_
 obtain ⟨a,b,hab,hb,e⟩:=two_alike n (fun t=>rs.getD t 0) fun t ht=>h _ (by rw [List.getD_eq_getElem?_getD]; simp [show t < rs.length by omega])
 rw [List.Nodup,List.pairwise_iff_getElem] at hn
 refine hn a b (by omega) (by omega) hab ?_
 have e:rs.getD a 0=rs.getD b 0:=e
 rw [List.getD_eq_getElem?_getD,List.getD_eq_getElem?_getD] at e
 simpa [show a < rs.length by omega,show b < rs.length by omega] using e
theorem exits_iff {n k p:Nat} {ps:List Pr} (he:endsOk n ps=true):k∈exitsOf ps p↔k < ps.length∧stR ps k=p:=by
 rw [exits_filter (ends_nonneg he),List.mem_filter,List.mem_range]
 simp
structure Grown (n:Nat) (ps:List Pr) (rs:List Nat) (done:Nat):Prop where
 nd:rs.Nodup
 lt:∀ p∈rs,p < n
 re:∀ p∈rs,ReachP n ps p
 st:stR ps 0∈rs
 dn:done≤rs.length
 cl:∀ i p,i < done→rs[i]?=some p→∀ k,k < ps.length→stR ps k=p→enR n ps k∈rs
theorem Grown.all {n:Nat} {ps:List Pr} {rs:List Nat} (G:Grown n ps rs rs.length) (p:Nat):p∈rs↔ReachP n ps p :=
 reach_iff (S:=fun p=>p∈rs) G.st (fun j hj h=>by
  obtain ⟨i,hi,e⟩:=List.getElem_of_mem h
  exact G.cl i _ hi (by rw [List.getElem?_eq_getElem hi,e]) j hj rfl) G.re p
structure Grows (n:Nat) (ps:List Pr) (rs:List Nat) (done p i:Nat) (rs':List Nat):Prop where
 nd:rs'.Nodup
 lt:∀ p∈rs',p < n
 re:∀ p∈rs',ReachP n ps p
 pre:∃ r,rs'=rs++r
 got:∀ j k,j < i→(exitsOf ps p)[j]?=some k→enR n ps k∈rs'
theorem Grows.start {n:Nat} {ps:List Pr} {rs:List Nat} {done p:Nat} (G:Grown n ps rs done):Grows n ps rs done p 0 rs :=
 ⟨G.nd,G.lt,G.re,⟨[],by simp⟩,fun j k h=>absurd h (by omega)⟩
theorem Grows.stay {n:Nat} {ps:List Pr} {rs rs':List Nat} {done p i k:Nat} (G:Grows n ps rs done p i rs') (hk:(exitsOf ps p)[i]?=some k) (h:enR n ps k∈rs'):Grows n ps rs done p (i+1) rs' :=
 ⟨G.nd,G.lt,G.re,G.pre,fun j k' hj e=>by
  by_cases c:j=i
  · subst c
    rw [hk] at e
    cases e
    exact h
  · exact G.got j k' (by omega) e⟩
theorem Grows.more {n:Nat} {ps:List Pr} {rs rs':List Nat} {done p i k:Nat} (he:endsOk n ps=true) (hp:ReachP n ps p) (G:Grows n ps rs done p i rs') (hk:(exitsOf ps p)[i]?=some k) (h:enR n ps k ∉ rs'):Grows n ps rs done p (i+1) (rs'++[enR n ps k]):=by
 obtain ⟨k1,k2⟩:=(exits_iff he).mp (List.mem_of_getElem? hk)
 refine ⟨?_,?_,?_,?_,?_⟩
 · rw [List.nodup_append]
   refine ⟨G.nd,by simp,fun a ha b hb e=>?_⟩
   have:b=enR n ps k:=by simpa using hb
   rw [e,this] at ha
   exact h ha
 · intro q hq
   rcases List.mem_append.mp hq with hq | hq
   · exact G.lt q hq
   · have:q=enR n ps k:=by simpa using hq
     rw [this]
     exact enR_lt he k1
 · intro q hq
   rcases List.mem_append.mp hq with hq | hq
   · exact G.re q hq
   · have:q=enR n ps k:=by simpa using hq
     rw [this]
     exact .step k1 (by rw [k2]; exact hp)
 · obtain ⟨r,e⟩:=G.pre
   exact ⟨r++[enR n ps k],by rw [e,List.append_assoc]⟩
 · intro j k' hj e
   by_cases c:j=i
   · subst c
     rw [hk] at e
     cases e
     simp
   · exact List.mem_append_left _ (G.got j k' (by omega) e)
theorem Grows.done {n:Nat} {ps:List Pr} {rs rs':List Nat} {done p:Nat} (he:endsOk n ps=true) (G0:Grown n ps rs done) (hp:rs[done]?=some p) (G:Grows n ps rs done p (exitsOf ps p).length rs'):Grown n ps rs' (done+1):=by
 obtain ⟨r,e⟩:=G.pre
 have hl:done < rs.length:=(List.getElem?_eq_some_iff.mp hp).1
 refine ⟨G.nd,G.lt,G.re,by rw [e]; exact List.mem_append_left _ G0.st,by rw [e,List.length_append]; omega,fun i q hi hq k hk1 hk2=>?_⟩
 by_cases c:i=done
 · subst c
   have hq':rs'[i]?=some p:=by rw [e,List.getElem?_append_left hl]; exact hp
   rw [hq'] at hq
   cases hq
   obtain ⟨j,hj,ej⟩:=List.getElem_of_mem ((exits_iff he).mpr ⟨hk1,hk2⟩)
   exact G.got j k hj (by rw [List.getElem?_eq_getElem hj,ej])
 · have hq':rs[i]?=some q:=by
    rw [e,List.getElem?_append_left (by omega)] at hq
    exact hq
   rw [e]
   exact List.mem_append_left _ (G0.cl i q (by omega) hq' k hk1 hk2)
theorem Grown.first {n:Nat} {ps:List Pr} (he:endsOk n ps=true) (h1:1≤ps.length):Grown n ps [stR ps 0] 0 :=
 ⟨by simp,fun p hp=>by have:p=stR ps 0:=by simpa using hp
                       rw [this]; exact (stR_cast he (by omega)).2,fun p hp=>by have:p=stR ps 0:=by simpa using hp
                                                                                rw [this]; exact .base,by simp,by simp,fun i p hi=>absurd hi (by omega)⟩
end L2
namespace L2
open PySem PySem.Spec PyProof.Rows Mx
theorem fact_le:∀ k,k≤64→fact k≤64 ^ k
 | 0,_=>by decide
 | k+1,h=>by
  show (k+1) * fact k≤64 ^ (k+1)
  rw [Nat.pow_succ,Nat.mul_comm (64 ^ k)]
  exact Nat.mul_le_mul (by omega) (fact_le k (by omega))
theorem pow_big {k:Nat} (h:k≤64):64 ^ k < 2 ^ 400:=Nat.lt_of_le_of_lt (Nat.pow_le_pow_right (by decide) h) (by decide +kernel)
theorem big_pow {x:Nat} (h:x < 2 ^ 1000):Big (x:Int):=Nat.lt_of_lt_of_le (show (x:Int).natAbs < 2 ^ 1000 by simpa using h) (Nat.pow_le_pow_right (by decide) (by decide))
theorem big_fact {k:Nat} (h:k≤64):Big (fact k:Nat):=big_pow (Nat.lt_of_le_of_lt (fact_le k h) (Nat.lt_of_lt_of_le (pow_big h) (Nat.pow_le_pow_right (by decide) (by decide))))
def degP (ps:List Pr) (p:Nat):Nat:=fact ((exitsOf ps p).length - 1)
theorem deg_le {n:Nat} {ps:List Pr} (he:endsOk n ps=true) (hl:ps.length≤64):∀ i,i≤n→prodTo (degP ps) i≤64 ^ (flat i fun p=>exitsOf ps p).length∧(flat i fun p=>exitsOf ps p).length≤ps.length:=by
 have hall:(flat n fun p=>exitsOf ps p).length=ps.length:=by
  have h1:(flat n fun p=>exitsOf ps p)=flat n fun p=>(List.range ps.length).filter fun k=>stR ps k == p:=flat_congr fun q _=>exits_filter (ends_nonneg he) q
  rw [h1]
  have:=(flat_filter (n:=n) (st:=stR ps) (List.range ps.length) fun x hx=>(stR_cast he (List.mem_range.mp hx)).2).length_eq
  rw [this]
  simp
 have mono:∀ i d,(flat i fun p=>exitsOf ps p).length≤(flat (i+d) fun p=>exitsOf ps p).length:=by
  intro i d
  induction d with
  | zero=>exact Nat.le_refl _
  | succ d ih =>
   rw [← Nat.add_assoc,flat_succ,List.length_append]
   omega
 have hb:∀ i,i≤n→(flat i fun p=>exitsOf ps p).length≤ps.length:=fun i hi=>by
  have:=mono i (n - i)
  rw [show i+(n - i)=n by omega,hall] at this
  exact this
 intro i
 induction i with
 | zero=>exact fun _=>⟨by show 1≤64 ^ 0; decide,Nat.zero_le _⟩
 | succ i ih =>
  intro hi
  obtain ⟨h1,_⟩:=ih (by omega)
  refine ⟨?_,hb (i+1) hi⟩
  show prodTo (degP ps) i * degP ps i≤_
  rw [flat_succ,List.length_append,Nat.pow_add]
  refine Nat.mul_le_mul h1 ?_
  have hle:(exitsOf ps i).length≤64:=Nat.le_trans (exits_len ps i) hl
  exact Nat.le_trans (fact_le _ (by omega)) (Nat.pow_le_pow_right (by decide) (by omega))
theorem prod_big {n i:Nat} {ps:List Pr} (he:endsOk n ps=true) (hl:ps.length≤64) (hi:i≤n):Big (prodTo (degP ps) i:Nat):=by
 obtain ⟨h1,h2⟩:=deg_le he hl i hi
 exact big_pow (Nat.lt_of_le_of_lt h1 (Nat.lt_of_lt_of_le (pow_big (Nat.le_trans h2 hl)) (Nat.pow_le_pow_right (by decide) (by decide))))
theorem deg_big {i:Nat} {ps:List Pr} (hl:ps.length≤64):Big (degP ps i:Nat):=big_fact (Nat.le_trans (Nat.sub_le _ _) (Nat.le_trans (exits_len ps i) hl))
theorem cnt_big {n g:Nat} {ps:List Pr} (hn:n≤32) (hl:ps.length≤64):Big (cntT n ps g):=Big.of_le (det_le hn fun i _=>gvL_len hl _ _)
theorem count_N {n:Nat} {ps:List Pr} (h:∀ q∈ps,(0≤q.1∧q.1 < n)∧0≤q.2∧q.2 < n) (p:Nat):(psN ps).countP (fun q=>q.1 == p)=(ps.map (·.1)).count (p:Int)∧(psN ps).countP (fun q=>q.2 == p)=(ps.map (·.2)).count (p:Int):=by
 unfold psN
 rw [List.countP_map,List.countP_map]
 unfold List.count
 rw [List.countP_map,List.countP_map]
 constructor
 · refine List.countP_congr fun q hq=>?_
   have:=h q hq
   simp only [Function.comp_apply,beq_iff_eq]
   omega
 · refine List.countP_congr fun q hq=>?_
   have:=h q hq
   simp only [Function.comp_apply,beq_iff_eq]
   omega
end L2
namespace L2
open PySem PySem.Spec PyProof.Rows Mx
def lk (R:List (List Int)) (s p:Nat):Int:=(R.getD s []).getD p 0
def shL (row:List Int) (es:List Nat) (k:Nat):Int:=(es.map fun e=>row.getD k 0 - row.getD e 0).sum
def stepR (m mk:Int) (rk:List Int) (es:List Nat) (k:Nat):List (List Int)→Nat→List (List Int)
 | [],_=>[]
 | row :: R,s=>(if s == k then row else List.zipWith (fun old cut=>(mk * old - shL row es k * cut) / m) row rk) :: stepR m mk rk es k R (s+1)
def runT (ends:Nat→List Nat):List Nat→Int→List (List Int)→Option Int
 | [],m,_=>some m
 | p :: l,m,R=>if decide (0 < m) then runT ends l (shL (R.getD p []) (ends p) p) (stepR m (shL (R.getD p []) (ends p) p) (R.getD p []) (ends p) p R 0) else none
def unitR (n:Nat):List (List Int):=(List.range n).map fun s=>(List.range n).map fun p=>if p=s then 1 else 0
structure Sq (n:Nat) (R:List (List Int)):Prop where
 ln:R.length=n
 rw:∀ row∈R,row.length=n
theorem Sq.row {n:Nat} {R:List (List Int)} (h:Sq n R) {s:Nat} (hs:s < n):(R.getD s []).length=n:=by
 have hl:s < R.length:=by rw [h.ln]; exact hs
 rw [List.getD_eq_getElem?_getD,List.getElem?_eq_getElem hl]
 exact h.rw _ (List.getElem_mem hl)
theorem stepR_get {m mk:Int} {rk:List Int} {es:List Nat} {k:Nat}:∀ (R:List (List Int)) (s0 i:Nat),(stepR m mk rk es k R s0)[i]?=R[i]?.map fun row=>if (s0+i == k) then row else List.zipWith (fun old cut=>(mk * old - shL row es k * cut) / m) row rk
 | [],_,_=>rfl
 | row :: R,s0,0=>rfl
 | row :: R,s0,i+1=>by
  show (stepR m mk rk es k R (s0+1))[i]?=_
  rw [stepR_get R (s0+1) i,show s0+1+i=s0+(i+1) by omega]
  rfl
theorem stepR_len {m mk:Int} {rk:List Int} {es:List Nat} {k:Nat}:∀ (R:List (List Int)) (s0:Nat),(stepR m mk rk es k R s0).length=R.length
 | [],_=>rfl
 | _ :: R,s0=>by show (stepR m mk rk es k R (s0+1)).length+1=_; rw [stepR_len R (s0+1)]; rfl
theorem shL_shf {R:List (List Int)} {es:List Nat} {k s:Nat}:shL (R.getD s []) es k=shf (lk R) es k s:=rfl
theorem step_lk {n k:Nat} {m:Int} {R:List (List Int)} {es:List Nat} (h:Sq n R) (hk:k < n):Sq n (stepR m (shL (R.getD k []) es k) (R.getD k []) es k R 0)∧∀ s p,s < n→p < n→lk (stepR m (shL (R.getD k []) es k) (R.getD k []) es k R 0) s p=chg m (lk R) es k s p:=by
 have hrk:=h.row hk
 constructor
 · refine ⟨by rw [stepR_len]; exact h.ln,fun row hr=>?_⟩
   obtain ⟨i,hi,rfl⟩:=List.getElem_of_mem hr
   have e:=stepR_get (m:=m) (mk:=shL (R.getD k []) es k) (rk:=R.getD k []) (es:=es) (k:=k) R 0 i
   rw [List.getElem?_eq_getElem hi] at e
   rw [stepR_len] at hi
   rw [List.getElem?_eq_getElem hi] at e
   have e:=Option.some.inj e
   rw [e]
   have hl:R[i].length=n:=h.rw _ (List.getElem_mem hi)
   split
   · exact hl
   · rw [List.length_zipWith,hl,hrk]; omega
 · intro s p hs hp
   have hl:s < R.length:=by rw [h.ln]; exact hs
   have er:R.getD s []=R[s]:=by rw [List.getD_eq_getElem?_getD,List.getElem?_eq_getElem hl]; rfl
   have lr:R[s].length=n:=h.rw _ (List.getElem_mem hl)
   unfold chg
   show ((stepR m (shL (R.getD k []) es k) (R.getD k []) es k R 0).getD s []).getD p 0=_
   rw [List.getD_eq_getElem?_getD (l:=stepR m (shL (R.getD k []) es k) (R.getD k []) es k R 0),stepR_get,List.getElem?_eq_getElem hl,Nat.zero_add]
   by_cases c:s=k
   · subst c
     rw [if_pos rfl]
     show (if (s == s)=true then R[s] else _).getD p 0=(R.getD s []).getD p 0
     rw [if_pos (by simp),er]
   · rw [if_neg c]
     show (if (s == k)=true then R[s] else List.zipWith (fun old cut=>(shL (R.getD k []) es k * old - shL R[s] es k * cut) / m) R[s] (R.getD k [])).getD p 0=_
     rw [if_neg (by simp [c]),List.getD_eq_getElem?_getD,List.getElem?_zipWith,List.getElem?_eq_getElem (by omega),List.getElem?_eq_getElem (by omega)]
     show (shL (R.getD k []) es k * R[s][p] - shL R[s] es k * (R.getD k [])[p]) / m=_
     have e1:lk R s p=R[s][p]:=by
      show (R.getD s []).getD p 0=_
      rw [er,List.getD_eq_getElem?_getD,List.getElem?_eq_getElem (by omega)]; rfl
     have e2:lk R k p=(R.getD k [])[p]:=by
      show (R.getD k []).getD p 0=_
      rw [List.getD_eq_getElem?_getD,List.getElem?_eq_getElem (by omega)]; rfl
     rw [e1,e2,← shL_shf,← shL_shf,er]
theorem runT_det {n:Nat} {ps:List Pr} (he:endsOk n ps=true) (hn:n≤32) (hp:ps.length≤64):∀ (l l0:List Nat) (m:Int) (R:List (List Int)) (r:Int),(∀ p∈l,p < n)→Sq n R→m=det n (Rows (enR n ps) (gvL ps l0))→(∀ s q,s < n→q < n→lk R s q=cof n (Rows (enR n ps) (gvL ps l0)) s q) →
 runT (fun p=>(exitsOf ps p).map (enR n ps)) l m R=some r→r=det n (Rows (enR n ps) (gvL ps (l0++l)))
 | [],l0,m,R,r,_,_,e,_,h=>by
  rw [List.append_nil,← e]
  exact (Option.some.inj h).symm
 | p :: l,l0,m,R,r,hl,hS,e,hR,h=>by
  unfold runT at h
  by_cases c:0 < m
  · rw [if_pos (decide_eq_true c)] at h
    have hpn:=hl p (List.mem_cons_self ..)
    have S:=give_step (gv:=gvL ps l0) he hn (fun i _=>gvL_len hp _ _) hpn hR (by rw [← e]; exact c) (exitsOf ps p) (fun r hr=>(exits_lt hr).1) (Nat.le_trans (exits_len ps p) hp)
    obtain ⟨_,S2,S3⟩:=S
    obtain ⟨Q1,Q2⟩:=step_lk (m:=m) (es:=(exitsOf ps p).map (enR n ps)) hS hpn
    have:=runT_det he hn hp l (l0++[p]) _ _ r (fun q hq=>hl q (List.mem_cons_of_mem _ hq)) Q1 (by rw [gvL_put,← S2,shL_shf]) (fun s q hs hq=>by rw [gvL_put,Q2 s q hs hq,e,S3 s q hs hq]) h
    rw [this,List.append_assoc]; rfl
  · rw [if_neg (by simp [c])] at h
    cases h
theorem cntT_run {n r:Nat} {ps:List Pr} {v:Int} (he:endsOk n ps=true) (hn:n≤32) (hp:ps.length≤64) (h:runT (fun p=>(exitsOf ps p).map (enR n ps)) (others n r) 1 (unitR n)=some v):cntT n ps r=v:=by
 have e0:gvL ps []=fun _=>[ps.length]:=by funext i; simp [gvL]
 have:=runT_det he hn hp (others n r) [] 1 (unitR n) v (fun p hp=>(others_mem.mp hp).1) ⟨by simp [unitR],fun row hr=>by
  unfold unitR at hr
  obtain ⟨s,_,rfl⟩:=List.mem_map.mp hr
  simp⟩ (by rw [e0,det_start (enR_out n ps)]) (fun s q hs hq=>by
   rw [e0,cof_start (enR_out n ps) hs hq]
   simp [lk,unitR,List.getD_eq_getElem?_getD,hs,hq]) h
 rw [List.nil_append] at this
 exact this.symm
def wN (s k:Nat):List Pr:=(List.range (s ^ k)).map fun (i:Nat)=>(((i / s:Nat):Int),((i % s ^ (k - 1):Nat):Int))
end L2
set_option maxRecDepth 1000000
namespace L2
open PySem PySem.Spec PyProof.Rows Mx
def dg (s:Nat):Nat→Nat→List Nat
 | 0,_=>[]
 | k+1,w=>dg s k (w / s)++[w % s]
def val (s:Nat) (l:List Nat):Nat:=l.foldl (fun a d=>a * s+d) 0
def lexN:List Nat→List Nat→Bool
 | [],[]=>false
 | [],_ :: _=>true
 | _ :: _,[]=>false
 | x :: xs,y :: ys=>if x=y then lexN xs ys else decide (x < y)
def rl (n:Nat) (ps:List Pr):Nat→List Nat
 | 0=>[stR ps 0]
 | i+1=>rl n ps i++(rl n ps i).flatMap fun (p:Nat)=>(exitsOf ps (p:Int)).map (enR n ps)
def dueN (s k:Nat):Nat:=(Mx.fact s) ^ (s ^ k / s) / s ^ k
structure WOk (s k:Nat):Prop where
 b1:1≤s∧s≤6∧1≤k∧k≤6∧s ^ k≤64∧1≤s ^ (k - 1)∧s ^ (k - 1)≤32∧s ^ k=s ^ (k - 1) * s
 ok:netOk ((s ^ (k - 1):Nat):Int) (wN s k)=true
 un:unlikeOf (s ^ (k - 1)) (wN s k)=[]
 rc:∀ p,p < s ^ (k - 1)→p∈rl (s ^ (k - 1)) (wN s k) (k - 1)
 tr:runT (fun p=>(exitsOf (wN s k) p).map (enR (s ^ (k - 1)) (wN s k))) (others (s ^ (k - 1)) (stR (wN s k) 0)) 1 (unitR (s ^ (k - 1)))=some ((dueN s k / Mx.prodTo (degP (wN s k)) (s ^ (k - 1)):Nat):Int)
 du:dueN s k / Mx.prodTo (degP (wN s k)) (s ^ (k - 1)) * Mx.prodTo (degP (wN s k)) (s ^ (k - 1))=dueN s k∧1≤dueN s k
 dl:∀ w,w < s ^ k→(dg s k w).dropLast=dg s (k - 1) (w / s)∧(dg s k w).drop 1=dg s (k - 1) (w % s ^ (k - 1))∧val s (dg s k w)=w∧(dg s k w).length=k
 md:∀ w,w < s ^ k→∀ j,j < k→dg s j (w % s ^ (k - 1))=dg s j w
 nd:((List.range (s ^ (k - 1))).map (dg s (k - 1))).Nodup
 so:((List.range (s ^ k)).map (dg s k)).Pairwise fun a b=>lexN b a=false
def allW:List (Nat × Nat):=[(1,1),(2,1),(2,2),(2,3),(2,4),(3,1),(3,2),(3,3),(4,1),(4,2),(5,1),(5,2),(1,6),(6,1),(2,5),(4,3),(6,2),(2,6)]
theorem w11:WOk 1 1:=by constructor <;> decide +kernel
theorem w21:WOk 2 1:=by constructor <;> decide +kernel
theorem w22:WOk 2 2:=by constructor <;> decide +kernel
theorem w23:WOk 2 3:=by constructor <;> decide +kernel
theorem w24:WOk 2 4:=by constructor <;> decide +kernel
theorem w31:WOk 3 1:=by constructor <;> decide +kernel
theorem w32:WOk 3 2:=by constructor <;> decide +kernel
theorem w33:WOk 3 3:=by constructor <;> decide +kernel
theorem w41:WOk 4 1:=by constructor <;> decide +kernel
theorem w42:WOk 4 2:=by constructor <;> decide +kernel
theorem w51:WOk 5 1:=by constructor <;> decide +kernel
theorem w52:WOk 5 2:=by constructor <;> decide +kernel
theorem w16:WOk 1 6:=by constructor <;> decide +kernel
theorem w61:WOk 6 1:=by constructor <;> decide +kernel
theorem w25:WOk 2 5:=by constructor <;> decide +kernel
theorem w43:WOk 4 3:=by constructor <;> decide +kernel
theorem w62:WOk 6 2:=by constructor <;> decide +kernel
theorem w26:WOk 2 6:=by constructor <;> decide +kernel
theorem wok:∀ q∈allW,WOk q.1 q.2:=by
 intro q hq
 simp only [allW,List.mem_cons,List.not_mem_nil,or_false] at hq
 rcases hq with rfl | rfl | rfl | rfl | rfl | rfl | rfl | rfl | rfl | rfl | rfl | rfl | rfl | rfl | rfl | rfl | rfl | rfl
 · exact w11
 · exact w21
 · exact w22
 · exact w23
 · exact w24
 · exact w31
 · exact w32
 · exact w33
 · exact w41
 · exact w42
 · exact w51
 · exact w52
 · exact w16
 · exact w61
 · exact w25
 · exact w43
 · exact w62
 · exact w26
theorem rl_reach {n:Nat} {ps:List Pr} (he:∀ q∈ps,0≤q.1):∀ (i p:Nat),p∈rl n ps i→ReachP n ps p
 | 0,p,h=>by
  have:p=stR ps 0:=by simpa [rl] using h
  subst this; exact .base
 | i+1,p,h=>by
  rcases List.mem_append.mp h with h | h
  · exact rl_reach he i p h
  · obtain ⟨q,hq,h⟩:=List.mem_flatMap.mp h
    obtain ⟨j,hj,rfl⟩:=List.mem_map.mp h
    obtain ⟨j1,j2⟩:=exits_lt hj
    refine .step j1 ?_
    have:stR ps j=q:=by unfold stR; rw [j2]; simp
    rw [this]; exact rl_reach he i q hq
theorem WOk.ap {s k:Nat} (W:WOk s k):apartOf (s ^ (k - 1)) (wN s k)=[]:=by
 unfold apartOf apartUp
 rw [List.filter_eq_nil_iff]
 intro p hp
 have:=rl_reach (n:=s ^ (k - 1)) (fun q hq=>by
  unfold wN at hq
  obtain ⟨i,_,rfl⟩:=List.mem_map.mp hq
  exact Int.natCast_nonneg _) _ _ (W.rc p (List.mem_range.mp hp))
 simp [this]
theorem wN_len (s k:Nat):(wN s k).length=s ^ k:=by simp [wN]
theorem wN_at {s k w:Nat} (h:w < s ^ k):(wN s k).getD w (0,0)=(((w / s:Nat):Int),((w % s ^ (k - 1):Nat):Int)):=by
 rw [List.getD_eq_getElem?_getD]; simp [wN,h]
theorem wN_st {s k w:Nat} (h:w < s ^ k):stR (wN s k) w=w / s:=by unfold stR; rw [wN_at h]; exact Int.toNat_natCast _
theorem wN_en {s k w:Nat} (h:w < s ^ k):enR (s ^ (k - 1)) (wN s k) w=w % s ^ (k - 1):=by
 rw [enR_in (by rw [wN_len]; exact h),wN_at h]; exact Int.toNat_natCast _
end L2
namespace L2
open PySem PySem.Spec PyProof.Rows Mx
theorem rot_perm {N:Nat} (hN:1≤N):∀ c:Nat,((List.range N).map fun t=>(t+c) % N).Perm (List.range N)
 | 0=>by
  have e:(List.range N).map (fun t=>(t+0) % N)=List.range N:=by
   conv=>rhs; rw [← List.map_id (List.range N)]
   exact List.map_congr_left fun t ht=>Nat.mod_eq_of_lt (List.mem_range.mp ht)
  rw [e]
 | c+1=>by
  refine List.Perm.trans ?_ (rot_perm hN c)
  obtain ⟨M,rfl⟩:∃ M,N=M+1:=⟨N - 1,by omega⟩
  have e1:(List.range (M+1)).map (fun t=>(t+(c+1)) % (M+1))=(List.range M).map ((fun t=>(t+c) % (M+1)) ∘ Nat.succ)++[(0+c) % (M+1)]:=by
   rw [List.range_succ,List.map_append]
   congr 1
   · exact List.map_congr_left fun t _=>by
      show (t+(c+1)) % (M+1)=(t+1+c) % (M+1)
      congr 1; omega
   · show [(M+(c+1)) % (M+1)]=_
     rw [show M+(c+1)=0+c+(M+1) by omega,Nat.add_mod_right]
  have e2:(List.range (M+1)).map (fun t=>(t+c) % (M+1))=[(0+c) % (M+1)]++(List.range M).map ((fun t=>(t+c) % (M+1)) ∘ Nat.succ):=by
   rw [List.range_succ_eq_map,List.map_cons,List.map_map]; rfl
  rw [e1,e2]
  exact List.perm_append_comm
theorem ring_next {st en:Nat→Nat} {rn:List Nat} {i:Nat} (h:rn.map en=(rn.map st).drop 1++(rn.map st).take 1) (hi:i < rn.length):en (rn.getD i 0)=st (rn.getD ((i+1) % rn.length) 0):=by
 have h2:=congrArg (fun l:List Nat=>l[i]?) h
 simp only [List.getElem?_map] at h2
 rw [List.getElem?_eq_getElem hi] at h2
 have e:rn.getD i 0=rn[i]:=by rw [List.getD_eq_getElem?_getD,List.getElem?_eq_getElem hi]; rfl
 rw [e]
 by_cases c:i+1 < rn.length
 · rw [List.getElem?_append_left (by rw [List.length_drop,List.length_map]; omega),List.getElem?_drop,List.getElem?_map,Nat.add_comm 1 i,List.getElem?_eq_getElem c] at h2
   rw [Nat.mod_eq_of_lt c,List.getD_eq_getElem?_getD,List.getElem?_eq_getElem c]
   exact Option.some.inj h2
 · have e2:i+1=rn.length:=by omega
   rw [List.getElem?_append_right (by rw [List.length_drop,List.length_map]; omega),List.length_drop,List.length_map,show i - (rn.length - 1)=0 by omega,List.getElem?_take,if_pos (by omega),List.getElem?_map,List.getElem?_eq_getElem (by omega)] at h2
   rw [e2,Nat.mod_self,List.getD_eq_getElem?_getD,List.getElem?_eq_getElem (by omega)]
   exact Option.some.inj h2
structure RW (s k:Nat) (rn:List Nat):Prop where
 w:WOk s k
 pm:rn.Perm (List.range (s ^ k))
 nx:∀ i,i < s ^ k→rn.getD i 0 % s ^ (k - 1)=rn.getD ((i+1) % s ^ k) 0 / s
 h0:rn.getD 0 0=0
theorem RW.len {s k:Nat} {rn:List Nat} (R:RW s k rn):rn.length=s ^ k:=by rw [R.pm.length_eq,List.length_range]
theorem RW.pos {s k:Nat} {rn:List Nat} (R:RW s k rn):1≤s ^ k:=Nat.pow_pos R.w.b1.1
theorem RW.lt {s k:Nat} {rn:List Nat} (R:RW s k rn) (i:Nat):rn.getD i 0 < s ^ k:=by
 rw [List.getD_eq_getElem?_getD]
 cases e:rn[i]? with
 | none=>exact R.pos
 | some x=>exact List.mem_range.mp (R.pm.subset (List.mem_of_getElem? e))
theorem RW.of {s k:Nat} {rn:List Nat} (W:WOk s k) (h1:rn.Perm (List.range (wN s k).length)) (h2:rn.head?=some 0) (h3:rn.map (enR (s ^ (k - 1)) (wN s k))=(rn.map (stR (wN s k))).drop 1++(rn.map (stR (wN s k))).take 1):RW s k rn:=by
 rw [wN_len] at h1
 have hl:rn.length=s ^ k:=by rw [h1.length_eq,List.length_range]
 have lt:∀ i,i < s ^ k→rn.getD i 0 < s ^ k:=fun i hi=>by
  rw [List.getD_eq_getElem?_getD,List.getElem?_eq_getElem (by omega)]
  exact List.mem_range.mp (h1.subset (List.getElem_mem _))
 have pos:0 < s ^ k:=Nat.pow_pos W.b1.1
 refine ⟨W,h1,fun i hi=>?_,?_⟩
 · have:=ring_next h3 (i:=i) (by omega)
   rw [hl] at this
   rw [wN_en (lt i hi),wN_st (lt _ (Nat.mod_lt _ pos))] at this
   exact this
 · cases rn with
   | nil=>cases h2
   | cons x r=>have:x=0:=by simpa using h2
               rw [this]; rfl
theorem RW.word {s k:Nat} {rn:List Nat} (R:RW s k rn):∀ j,j≤k→∀ i,dg s j (rn.getD ((i+j) % s ^ k) 0)=(List.range j).map fun t=>rn.getD ((i+1+t) % s ^ k) 0 % s
 | 0,_,_=>rfl
 | j+1,hj,i=>by
  have pos:=R.pos
  show dg s j (rn.getD ((i+(j+1)) % s ^ k) 0 / s)++[rn.getD ((i+(j+1)) % s ^ k) 0 % s]=_
  have e:=R.nx ((i+j) % s ^ k) (Nat.mod_lt _ pos)
  rw [Nat.mod_add_mod,show i+j+1=i+(j+1) by omega] at e
  rw [← e,R.w.md _ (R.lt _) j (by omega),R.word j (by omega) i,List.range_succ,List.map_append]
  congr 1
  show [_]=[rn.getD ((i+1+j) % s ^ k) 0 % s]
  rw [show i+1+j=i+(j+1) by omega]
def metN (s k:Nat) (rn:List Nat) (t:Nat):List Nat:=(List.range k).map fun j=>rn.getD ((t+j) % s ^ k) 0 % s
theorem RW.met {s k:Nat} {rn:List Nat} (R:RW s k rn) (t:Nat):metN s k rn t=dg s k (rn.getD ((t+(s ^ k - 1+k)) % s ^ k) 0):=by
 have pos:=R.pos
 have e:=R.word k (Nat.le_refl _) (t+(s ^ k - 1))
 rw [show t+(s ^ k - 1)+k=t+(s ^ k - 1+k) by omega] at e
 rw [e]
 unfold metN
 refine List.map_congr_left fun j _=>?_
 rw [show t+(s ^ k - 1)+1+j=t+j+s ^ k by omega,Nat.add_mod_right]
theorem RW.all {s k:Nat} {rn:List Nat} (R:RW s k rn):((List.range (s ^ k)).map (metN s k rn)).Perm ((List.range (s ^ k)).map (dg s k)):=by
 have e1:(List.range (s ^ k)).map (metN s k rn)=(((List.range (s ^ k)).map fun t=>(t+(s ^ k - 1+k)) % s ^ k).map fun j=>rn.getD j 0).map (dg s k):=by
  rw [List.map_map,List.map_map]
  exact List.map_congr_left fun t _=>R.met t
 rw [e1]
 refine List.Perm.map _ (((rot_perm R.pos _).map _).trans ?_)
 have e2:(List.range (s ^ k)).map (fun j=>rn.getD j 0)=rn:=by
  refine List.ext_getElem (by simp [R.len]) fun j h1 h2=>?_
  simp only [List.getElem_map,List.getElem_range]
  rw [List.getD_eq_getElem?_getD,List.getElem?_eq_getElem h2]; rfl
 rw [e2]
 exact R.pm
theorem RW.last {s k:Nat} {rn:List Nat} (R:RW s k rn) {t:Nat} (ht:t < s ^ k):val s (metN s k rn (t+s ^ k * k+1 - k))=rn.getD t 0:=by
 have pos:=R.pos
 have hk:=R.w.b1.2.2.1
 have hle:k≤s ^ k * k:=Nat.le_mul_of_pos_left _ pos
 rw [R.met]
 have e:(t+s ^ k * k+1 - k+(s ^ k - 1+k)) % s ^ k=t:=by
  rw [show t+s ^ k * k+1 - k+(s ^ k - 1+k)=t+s ^ k * k+s ^ k by omega,Nat.add_mod_right,Nat.add_mul_mod_self_left,Nat.mod_eq_of_lt ht]
 rw [e]
 exact (R.w.dl _ (R.lt t)).2.2.1
theorem dg_zero (s:Nat):∀ k,dg s k 0=List.replicate k 0
 | 0=>rfl
 | k+1=>by
  show dg s k (0 / s)++[0 % s]=_
  rw [Nat.zero_div,Nat.zero_mod,dg_zero s k,List.replicate_succ']
theorem sorted_uniq {α:Type} {r:α→α→Prop} (anti:∀ a b,r a b→r b a→a=b):∀ {l m:List α},l.Perm m→l.Pairwise r→m.Pairwise r→l=m
 | [],m,h,_,_=>(List.nil_perm.mp h).symm
 | a :: l,[],h,_,_=>by have:=h.length_eq; simp at this
 | a :: l,b :: m,h,h1,h2=>by
  have hab:a=b:=by
   have ha:=h.subset (List.mem_cons_self ..)
   have hb:=h.symm.subset (List.mem_cons_self ..)
   rcases List.mem_cons.mp ha with e | ha
   · exact e
   · rcases List.mem_cons.mp hb with e | hb
     · exact e.symm
     · exact anti _ _ ((List.pairwise_cons.mp h1).1 _ hb) ((List.pairwise_cons.mp h2).1 _ ha)
  subst hab
  rw [sorted_uniq anti ((List.perm_cons a).mp h) (List.pairwise_cons.mp h1).2 (List.pairwise_cons.mp h2).2]
def intsOf (l:List Nat):List Int:=l.map fun (k:Nat)=>(k:Int)
theorem lexN_eq:∀ a b:List Nat,HT.lexLt (intsOf a) (intsOf b)=lexN a b
 | [],[]=>rfl
 | [],_ :: _=>rfl
 | _ :: _,[]=>rfl
 | x :: a,y :: b=>by
  show HT.lexLt ((x:Int) :: intsOf a) ((y:Int) :: intsOf b)=_
  rw [HT.lexLt_cons,lexN_eq a b]
  show _=if x=y then lexN a b else decide (x < y)
  by_cases c:x=y
  · rw [if_pos (by omega),if_pos c]
  · rw [if_neg (by omega),if_neg c]
    by_cases d:x < y
    · rw [decide_eq_true d]; exact decide_eq_true (by omega)
    · rw [decide_eq_false d]; exact decide_eq_false (by omega)
theorem intsOf_inj {a b:List Nat} (h:intsOf a=intsOf b):a=b:=by
 have:=congrArg (List.map Int.toNat) h
 unfold intsOf at this
 rw [List.map_map,List.map_map] at this
 simpa [Function.comp_def] using this
theorem WOk.words {s k:Nat} (W:WOk s k) {rows:List (List Nat)} (hp:rows.Perm ((List.range (s ^ k)).map (dg s k))) (hs:rows.Pairwise fun a b=>HT.lexLt (intsOf b) (intsOf a)=false):rows=(List.range (s ^ k)).map (dg s k):=by
 refine sorted_uniq (r:=fun a b=>lexN b a=false) (fun a b h1 h2=>?_) hp (hs.imp fun h=>by rw [← lexN_eq]; exact h) W.so
 rw [← lexN_eq] at h1 h2
 exact intsOf_inj (Srt.lex_tot _ _ h2 h1)
end L2
namespace Rb
open PySem L2
def top (i:Nat):Stmt:=PySem.Challenge.pw_ringbook_k13_word_rings.main.body.getD i (.Pass ⟨0,0,0,0⟩)
abbrev s_t:Stmt:=top 11
abbrev s_e:Stmt:=top 12
abbrev s_a:Stmt:=top 13
abbrev s_k1:Stmt:=top 14
abbrev s_u:Stmt:=top 15
abbrev s_l:Stmt:=inClass (top 16) 0
abbrev s_v:Stmt:=inClass (top 16) 1
abbrev s_e1:Stmt:=inClass (top 16) 2
abbrev s_f1:Stmt:=inClass (top 16) 3
abbrev s_o1:Stmt:=top 18
abbrev s_f:Stmt:=inClass (top 19) 0
abbrev s_h:Stmt:=inClass (top 19) 1
abbrev s_b:Stmt:=inClass (top 19) 2
abbrev s_c:Stmt:=inClass (top 19) 3
abbrev s_p:Stmt:=top 20
abbrev s_w:Stmt:=top 21
abbrev s_g1:Stmt:=top 22
abbrev s_h1:Stmt:=top 23
abbrev s_p1:Stmt:=top 24
abbrev s_s1:Stmt:=top 25
abbrev s_m:Stmt:=top 26
abbrev s_t1:Stmt:=top 27
abbrev s_x:Stmt:=top 28
abbrev s_y:Stmt:=top 30
abbrev s_n:Stmt:=top 31
abbrev s_i:Stmt:=top 32
abbrev s_q:Stmt:=top 33
abbrev s_x1:Stmt:=top 34
abbrev s_u1:Stmt:=top 35
abbrev s_l1:Stmt:=top 36
abbrev s_z:Stmt:=top 37
abbrev s_q1:Stmt:=top 38
abbrev s_r:Stmt:=top 39
abbrev s_i1:Stmt:=top 40
abbrev s_j:Stmt:=top 41
abbrev s_w1:Stmt:=top 42
abbrev s_v1:Stmt:=top 43
abbrev s_a1:Stmt:=top 44
abbrev s_j1:Stmt:=top 49
abbrev s_b1:Stmt:=top 50
abbrev s_r1:Stmt:=top 51
abbrev s_g:Stmt:=top 52
abbrev s_m1:Stmt:=top 53
abbrev s_k:Stmt:=top 54
abbrev s_d:Stmt:=top 55
abbrev s_o:Stmt:=top 57
abbrev s_c1:Stmt:=top 58
abbrev s_d1:Stmt:=top 59
abbrev s_n1:Stmt:=top 60
abbrev s_s:Stmt:=top 61
abbrev s_y1:Stmt:=top 62
set_option genInjectivity false in
structure Adr where
 (f_t f_e f_a f_k1 f_u f_l f_v f_e1 f_f1 f_o1 f_f f_h f_b f_c f_p f_w f_g1 f_h1 f_p1 f_s1 f_m f_t1 f_x f_y f_n f_i f_q f_x1 f_u1 f_l1 f_z f_q1 f_r f_i1 f_j f_w1 f_v1 f_a1 f_j1 f_b1 f_r1 f_g f_m1 f_k f_d f_o f_c1 f_d1 f_n1 f_s f_y1:Addr)
 (d_t d_e d_a d_k1 d_u d_l d_v d_e1 d_f1 d_o1 d_f d_h d_b d_c d_p d_w d_g1 d_h1 d_p1 d_s1 d_m d_t1 d_x d_y d_n d_i d_q d_x1 d_u1 d_l1 d_z d_q1 d_r d_i1 d_j d_w1 d_v1 d_a1 d_j1 d_b1 d_r1 d_g d_m1 d_k d_d d_o d_c1 d_d1 d_n1 d_s d_y1:FuncData)
 C_BookError:Addr
 C_NoNet:Addr
 C_NoWords:Addr
 C_NoPlace:Addr
 C_NoTree:Addr
 C_NoRing:Addr
 C_NoNumber:Addr
 C_Net:Addr
 C_Tally:Addr
 k_MOST_PLACES:Value
 k_MOST_ROADS:Value
 k_MOST_SIGNS:Value
 k_MOST_SIZE:Value
 k_MOST_WORDS:Value
structure Txt (K:PySem.W.Frag) (mg:Str→Option Value) (t:Adr):Prop where
 F_t:Fun K "lies_within" "lies_within" s_t t.f_t t.d_t
 b_t:Binds K t.d_t ["place","places"] []
 m_t:mg "lies_within"=some (.ref t.f_t)
 F_e:Fun K "ends_lie_within" "ends_lie_within" s_e t.f_e t.d_e
 b_e:Binds K t.d_e ["roads","places"] []
 m_e:mg "ends_lie_within"=some (.ref t.f_e)
 F_a:Fun K "each_place_has_exit" "each_place_has_exit" s_a t.f_a t.d_a
 b_a:Binds K t.d_a ["roads","places"] []
 m_a:mg "each_place_has_exit"=some (.ref t.f_a)
 F_k1:Fun K "check_net" "check_net" s_k1 t.f_k1 t.d_k1
 b_k1:Binds K t.d_k1 ["places","roads"] []
 m_k1:mg "check_net"=some (.ref t.f_k1)
 F_u:Fun K "check_place" "check_place" s_u t.f_u t.d_u
 b_u:Binds K t.d_u ["place","places"] []
 m_u:mg "check_place"=some (.ref t.f_u)
 F_l:Fun K "__init__" "Net.__init__" s_l t.f_l t.d_l
 b_l:Binds K t.d_l ["self","places","roads"] []
 F_v:Fun K "places" "Net.places" s_v t.f_v t.d_v
 b_v:Binds K t.d_v ["self"] []
 M_v:Meth K t.C_Net "places" t.f_v
 F_e1:Fun K "roads" "Net.roads" s_e1 t.f_e1 t.d_e1
 b_e1:Binds K t.d_e1 ["self"] []
 M_e1:Meth K t.C_Net "roads" t.f_e1
 F_f1:Fun K "exits" "Net.exits" s_f1 t.f_f1 t.d_f1
 b_f1:Binds K t.d_f1 ["self","place"] []
 M_f1:Meth K t.C_Net "exits" t.f_f1
 F_o1:Fun K "lone_row" "lone_row" s_o1 t.f_o1 t.d_o1
 b_o1:Binds K t.d_o1 ["stop","places"] []
 m_o1:mg "lone_row"=some (.ref t.f_o1)
 F_f:Fun K "__init__" "Tally.__init__" s_f t.f_f t.d_f
 b_f:Binds K t.d_f ["self","places"] []
 F_h:Fun K "many_by" "Tally.many_by" s_h t.f_h t.d_h
 b_h:Binds K t.d_h ["self","place","end"] []
 M_h:Meth K t.C_Tally "many_by" t.f_h
 F_b:Fun K "changed_row" "Tally.changed_row" s_b t.f_b t.d_b
 b_b:Binds K t.d_b ["self","stop","place","ends","many"] []
 M_b:Meth K t.C_Tally "changed_row" t.f_b
 F_c:Fun K "give_roads" "Tally.give_roads" s_c t.f_c t.d_c
 b_c:Binds K t.d_c ["self","place","ends"] []
 M_c:Meth K t.C_Tally "give_roads" t.f_c
 F_p:Fun K "other_places" "other_places" s_p t.f_p t.d_p
 b_p:Binds K t.d_p ["net","goal"] []
 m_p:mg "other_places"=some (.ref t.f_p)
 F_w:Fun K "whole_tally" "whole_tally" s_w t.f_w t.d_w
 b_w:Binds K t.d_w ["net","goal"] []
 m_w:mg "whole_tally"=some (.ref t.f_w)
 F_g1:Fun K "many_trees" "many_trees" s_g1 t.f_g1 t.d_g1
 b_g1:Binds K t.d_g1 ["net","place"] []
 m_g1:mg "many_trees"=some (.ref t.f_g1)
 F_h1:Fun K "many_ahead" "many_ahead" s_h1 t.f_h1 t.d_h1
 b_h1:Binds K t.d_h1 ["net","tally","place","road"] []
 m_h1:mg "many_ahead"=some (.ref t.f_h1)
 F_p1:Fun K "entry_at" "entry_at" s_p1 t.f_p1 t.d_p1
 b_p1:Binds K t.d_p1 ["net","tally","place","number"] []
 m_p1:mg "entry_at"=some (.ref t.f_p1)
 F_s1:Fun K "tree_at" "tree_at" s_s1 t.f_s1 t.d_s1
 b_s1:Binds K t.d_s1 ["net","place","number"] []
 m_s1:mg "tree_at"=some (.ref t.f_s1)
 F_m:Fun K "comes_to_none" "comes_to_none" s_m t.f_m t.d_m
 b_m:Binds K t.d_m ["roads","tree","place"] []
 m_m:mg "comes_to_none"=some (.ref t.f_m)
 F_t1:Fun K "is_tree" "is_tree" s_t1 t.f_t1 t.d_t1
 b_t1:Binds K t.d_t1 ["net","goal","tree"] []
 m_t1:mg "is_tree"=some (.ref t.f_t1)
 F_x:Fun K "tree_number" "tree_number" s_x t.f_x t.d_x
 b_x:Binds K t.d_x ["net","place","tree"] []
 m_x:mg "tree_number"=some (.ref t.f_x)
 F_y:Fun K "first_place" "first_place" s_y t.f_y t.d_y
 b_y:Binds K t.d_y ["net"] []
 m_y:mg "first_place"=some (.ref t.f_y)
 F_n:Fun K "unlike_places" "unlike_places" s_n t.f_n t.d_n
 b_n:Binds K t.d_n ["net"] []
 m_n:mg "unlike_places"=some (.ref t.f_n)
 F_i:Fun K "reached_places" "reached_places" s_i t.f_i t.d_i
 b_i:Binds K t.d_i ["net"] []
 m_i:mg "reached_places"=some (.ref t.f_i)
 F_q:Fun K "apart_places" "apart_places" s_q t.f_q t.d_q
 b_q:Binds K t.d_q ["net"] []
 m_q:mg "apart_places"=some (.ref t.f_q)
 F_x1:Fun K "why" "why" s_x1 t.f_x1 t.d_x1
 b_x1:Binds K t.d_x1 ["net"] []
 m_x1:mg "why"=some (.ref t.f_x1)
 F_u1:Fun K "is_ring" "is_ring" s_u1 t.f_u1 t.d_u1
 b_u1:Binds K t.d_u1 ["net","ring"] []
 m_u1:mg "is_ring"=some (.ref t.f_u1)
 F_l1:Fun K "factorial" "factorial" s_l1 t.f_l1 t.d_l1
 b_l1:Binds K t.d_l1 ["number"] []
 m_l1:mg "factorial"=some (.ref t.f_l1)
 F_z:Fun K "many_orders" "many_orders" s_z t.f_z t.d_z
 b_z:Binds K t.d_z ["net"] []
 m_z:mg "many_orders"=some (.ref t.f_z)
 F_q1:Fun K "order_at" "order_at" s_q1 t.f_q1 t.d_q1
 b_q1:Binds K t.d_q1 ["free","number"] []
 m_q1:mg "order_at"=some (.ref t.f_q1)
 F_r:Fun K "order_number" "order_number" s_r t.f_r t.d_r
 b_r:Binds K t.d_r ["order"] []
 m_r:mg "order_number"=some (.ref t.f_r)
 F_i1:Fun K "many_rings" "many_rings" s_i1 t.f_i1 t.d_i1
 b_i1:Binds K t.d_i1 ["net"] []
 m_i1:mg "many_rings"=some (.ref t.f_i1)
 F_j:Fun K "exits_in_order" "exits_in_order" s_j t.f_j t.d_j
 b_j:Binds K t.d_j ["net","place","last","number"] []
 m_j:mg "exits_in_order"=some (.ref t.f_j)
 F_w1:Fun K "walked" "walked" s_w1 t.f_w1 t.d_w1
 b_w1:Binds K t.d_w1 ["net","orders"] []
 m_w1:mg "walked"=some (.ref t.f_w1)
 F_v1:Fun K "ring_at" "ring_at" s_v1 t.f_v1 t.d_v1
 b_v1:Binds K t.d_v1 ["net","number"] []
 m_v1:mg "ring_at"=some (.ref t.f_v1)
 F_a1:Fun K "ring_number" "ring_number" s_a1 t.f_a1 t.d_a1
 b_a1:Binds K t.d_a1 ["net","ring"] []
 m_a1:mg "ring_number"=some (.ref t.f_a1)
 F_j1:Fun K "many_words" "many_words" s_j1 t.f_j1 t.d_j1
 b_j1:Binds K t.d_j1 ["signs","size"] []
 m_j1:mg "many_words"=some (.ref t.f_j1)
 F_b1:Fun K "check_words" "check_words" s_b1 t.f_b1 t.d_b1
 b_b1:Binds K t.d_b1 ["signs","size"] []
 m_b1:mg "check_words"=some (.ref t.f_b1)
 F_r1:Fun K "word_net" "word_net" s_r1 t.f_r1 t.d_r1
 b_r1:Binds K t.d_r1 ["signs","size"] []
 m_r1:mg "word_net"=some (.ref t.f_r1)
 F_g:Fun K "many_word_rings" "many_word_rings" s_g t.f_g t.d_g
 b_g:Binds K t.d_g ["signs","size"] []
 m_g:mg "many_word_rings"=some (.ref t.f_g)
 F_m1:Fun K "word_ring" "word_ring" s_m1 t.f_m1 t.d_m1
 b_m1:Binds K t.d_m1 ["signs","size","number"] []
 m_m1:mg "word_ring"=some (.ref t.f_m1)
 F_k:Fun K "word_ending_at" "word_ending_at" s_k t.f_k t.d_k
 b_k:Binds K t.d_k ["signs","size","ring","last"] []
 m_k:mg "word_ending_at"=some (.ref t.f_k)
 F_d:Fun K "word_ring_number" "word_ring_number" s_d t.f_d t.d_d
 b_d:Binds K t.d_d ["signs","size","ring"] []
 m_d:mg "word_ring_number"=some (.ref t.f_d)
 F_o:Fun K "_law_cell_at" "_law_cell_at" s_o t.f_o t.d_o
 b_o:Binds K t.d_o ["script","k"] []
 m_o:mg "_law_cell_at"=some (.ref t.f_o)
 F_c1:Fun K "_law_whole" "_law_whole" s_c1 t.f_c1 t.d_c1
 b_c1:Binds K t.d_c1 ["found"] []
 m_c1:mg "_law_whole"=some (.ref t.f_c1)
 F_d1:Fun K "_law_words" "_law_words" s_d1 t.f_d1 t.d_d1
 b_d1:Binds K t.d_d1 ["signs","size"] []
 m_d1:mg "_law_words"=some (.ref t.f_d1)
 F_n1:Fun K "_law_due" "_law_due" s_n1 t.f_n1 t.d_n1
 b_n1:Binds K t.d_n1 ["signs","size","many"] []
 m_n1:mg "_law_due"=some (.ref t.f_n1)
 F_s:Fun K "_law_choice" "_law_choice" s_s t.f_s t.d_s
 b_s:Binds K t.d_s ["cell"] []
 m_s:mg "_law_choice"=some (.ref t.f_s)
 F_y1:Fun K "law" "law" s_y1 t.f_y1 t.d_y1
 b_y1:Binds K t.d_y1 ["script"] []
 m_y1:mg "law"=some (.ref t.f_y1)
 m_BookError:mg "BookError"=some (.ref t.C_BookError)
 m_NoNet:mg "NoNet"=some (.ref t.C_NoNet)
 m_NoWords:mg "NoWords"=some (.ref t.C_NoWords)
 m_NoPlace:mg "NoPlace"=some (.ref t.C_NoPlace)
 m_NoTree:mg "NoTree"=some (.ref t.C_NoTree)
 m_NoRing:mg "NoRing"=some (.ref t.C_NoRing)
 m_NoNumber:mg "NoNumber"=some (.ref t.C_NoNumber)
 m_Net:mg "Net"=some (.ref t.C_Net)
 m_Tally:mg "Tally"=some (.ref t.C_Tally)
 cl_Net:Cls K t.C_Net
 mk_Net:Mk K t.C_Net t.f_l
 na_Net_place_count:NoAttr K t.C_Net "place_count"
 na_Net_road_pairs:NoAttr K t.C_Net "road_pairs"
 cl_Tally:Cls K t.C_Tally
 mk_Tally:Mk K t.C_Tally t.f_f
 na_Tally_many:NoAttr K t.C_Tally "many"
 na_Tally_stopped:NoAttr K t.C_Tally "stopped"
 m_MOST_PLACES:mg "MOST_PLACES"=some t.k_MOST_PLACES
 r_MOST_PLACES:RelV (.int 32) t.k_MOST_PLACES
 m_MOST_ROADS:mg "MOST_ROADS"=some t.k_MOST_ROADS
 r_MOST_ROADS:RelV (.int 64) t.k_MOST_ROADS
 m_MOST_SIGNS:mg "MOST_SIGNS"=some t.k_MOST_SIGNS
 r_MOST_SIGNS:RelV (.int 6) t.k_MOST_SIGNS
 m_MOST_SIZE:mg "MOST_SIZE"=some t.k_MOST_SIZE
 r_MOST_SIZE:RelV (.int 6) t.k_MOST_SIZE
 m_MOST_WORDS:mg "MOST_WORDS"=some t.k_MOST_WORDS
 r_MOST_WORDS:RelV (.int 64) t.k_MOST_WORDS
 n_len:mg "len"=none
 n_range:mg "range"=none
 n_all:mg "all"=none
 n_enumerate:mg "enumerate"=none
 n_isinstance:mg "isinstance"=none
 n_list:mg "list"=none
 n_int:mg "int"=none
 n_bool:mg "bool"=none
 n_sum:mg "sum"=none
 n_zip:mg "zip"=none
 n_sorted:mg "sorted"=none
theorem sc_t:FnScope ["place","places"] ["place","places"] (defScope s_t):=⟨rfl,rfl,rfl,by decide +kernel,rfl,by decide +kernel,by decide +kernel⟩
theorem sc_e:FnScope ["roads","places"] ["roads","places"] (defScope s_e):=⟨rfl,rfl,rfl,by decide +kernel,rfl,by decide +kernel,by decide +kernel⟩
theorem sc_a:FnScope ["roads","places","starts"] ["roads","places"] (defScope s_a):=⟨rfl,rfl,rfl,by decide +kernel,rfl,by decide +kernel,by decide +kernel⟩
theorem sc_k1:FnScope ["places","roads"] ["places","roads"] (defScope s_k1):=⟨rfl,rfl,rfl,by decide +kernel,rfl,by decide +kernel,by decide +kernel⟩
theorem sc_u:FnScope ["place","places"] ["place","places"] (defScope s_u):=⟨rfl,rfl,rfl,by decide +kernel,rfl,by decide +kernel,by decide +kernel⟩
theorem sc_l:FnScope ["self","places","roads"] ["self","places","roads"] (defScope s_l):=⟨rfl,rfl,rfl,by decide +kernel,rfl,by decide +kernel,by decide +kernel⟩
theorem sc_v:FnScope ["self"] ["self"] (defScope s_v):=⟨rfl,rfl,rfl,by decide +kernel,rfl,by decide +kernel,by decide +kernel⟩
theorem sc_e1:FnScope ["self"] ["self"] (defScope s_e1):=⟨rfl,rfl,rfl,by decide +kernel,rfl,by decide +kernel,by decide +kernel⟩
theorem sc_f1:FnScope ["self","place"] ["self","place"] (defScope s_f1):=⟨rfl,rfl,rfl,by decide +kernel,rfl,by decide +kernel,by decide +kernel⟩
theorem sc_o1:FnScope ["stop","places"] ["stop","places"] (defScope s_o1):=⟨rfl,rfl,rfl,by decide +kernel,rfl,by decide +kernel,by decide +kernel⟩
theorem sc_f:FnScope ["self","places"] ["self","places"] (defScope s_f):=⟨rfl,rfl,rfl,by decide +kernel,rfl,by decide +kernel,by decide +kernel⟩
theorem sc_h:FnScope ["self","place","end"] ["self","place","end"] (defScope s_h):=⟨rfl,rfl,rfl,by decide +kernel,rfl,by decide +kernel,by decide +kernel⟩
theorem sc_b:FnScope ["self","stop","place","ends","many","row","shift"] ["self","stop","place","ends","many"] (defScope s_b):=⟨rfl,rfl,rfl,by decide +kernel,rfl,by decide +kernel,by decide +kernel⟩
theorem sc_c:FnScope ["self","place","ends","many"] ["self","place","ends"] (defScope s_c):=⟨rfl,rfl,rfl,by decide +kernel,rfl,by decide +kernel,by decide +kernel⟩
theorem sc_p:FnScope ["net","goal"] ["net","goal"] (defScope s_p):=⟨rfl,rfl,rfl,by decide +kernel,rfl,by decide +kernel,by decide +kernel⟩
theorem sc_w:FnScope ["net","goal","roads","tally","place"] ["net","goal"] (defScope s_w):=⟨rfl,rfl,rfl,by decide +kernel,rfl,by decide +kernel,by decide +kernel⟩
theorem sc_g1:FnScope ["net","place"] ["net","place"] (defScope s_g1):=⟨rfl,rfl,rfl,by decide +kernel,rfl,by decide +kernel,by decide +kernel⟩
theorem sc_h1:FnScope ["net","tally","place","road","roads"] ["net","tally","place","road"] (defScope s_h1):=⟨rfl,rfl,rfl,by decide +kernel,rfl,by decide +kernel,by decide +kernel⟩
theorem sc_p1:FnScope ["net","tally","place","number","fitting"] ["net","tally","place","number"] (defScope s_p1):=⟨rfl,rfl,rfl,by decide +kernel,rfl,by decide +kernel,by decide +kernel⟩
theorem sc_s1:FnScope ["net","place","number","tally","roads","tree","other","road"] ["net","place","number"] (defScope s_s1):=⟨rfl,rfl,rfl,by decide +kernel,rfl,by decide +kernel,by decide +kernel⟩
theorem sc_m:FnScope ["roads","tree","place","step"] ["roads","tree","place"] (defScope s_m):=⟨rfl,rfl,rfl,by decide +kernel,rfl,by decide +kernel,by decide +kernel⟩
theorem sc_t1:FnScope ["net","goal","tree","roads"] ["net","goal","tree"] (defScope s_t1):=⟨rfl,rfl,rfl,by decide +kernel,rfl,by decide +kernel,by decide +kernel⟩
theorem sc_x:FnScope ["net","place","tree","roads","tally","number","other"] ["net","place","tree"] (defScope s_x):=⟨rfl,rfl,rfl,by decide +kernel,rfl,by decide +kernel,by decide +kernel⟩
theorem sc_y:FnScope ["net"] ["net"] (defScope s_y):=⟨rfl,rfl,rfl,by decide +kernel,rfl,by decide +kernel,by decide +kernel⟩
theorem sc_n:FnScope ["net","starts","ends"] ["net"] (defScope s_n):=⟨rfl,rfl,rfl,by decide +kernel,rfl,by decide +kernel,by decide +kernel⟩
theorem sc_i:FnScope ["net","roads","reached","done","road"] ["net"] (defScope s_i):=⟨rfl,rfl,rfl,by decide +kernel,rfl,by decide +kernel,by decide +kernel⟩
theorem sc_q:FnScope ["net","reached"] ["net"] (defScope s_q):=⟨rfl,rfl,rfl,by decide +kernel,rfl,by decide +kernel,by decide +kernel⟩
theorem sc_x1:FnScope ["net","unlike","apart"] ["net"] (defScope s_x1):=⟨rfl,rfl,rfl,by decide +kernel,rfl,by decide +kernel,by decide +kernel⟩
theorem sc_u1:FnScope ["net","ring","roads","starts","ends"] ["net","ring"] (defScope s_u1):=⟨rfl,rfl,rfl,by decide +kernel,rfl,by decide +kernel,by decide +kernel⟩
theorem sc_l1:FnScope ["number","product","factor"] ["number"] (defScope s_l1):=⟨rfl,rfl,rfl,by decide +kernel,rfl,by decide +kernel,by decide +kernel⟩
theorem sc_z:FnScope ["net","product","place"] ["net"] (defScope s_z):=⟨rfl,rfl,rfl,by decide +kernel,rfl,by decide +kernel,by decide +kernel⟩
theorem sc_q1:FnScope ["free","number","left","order","size"] ["free","number"] (defScope s_q1):=⟨rfl,rfl,rfl,by decide +kernel,rfl,by decide +kernel,by decide +kernel⟩
theorem sc_r:FnScope ["order","left","number","factor","road","spot"] ["order"] (defScope s_r):=⟨rfl,rfl,rfl,by decide +kernel,rfl,by decide +kernel,by decide +kernel⟩
theorem sc_i1:FnScope ["net"] ["net"] (defScope s_i1):=⟨rfl,rfl,rfl,by decide +kernel,rfl,by decide +kernel,by decide +kernel⟩
theorem sc_j:FnScope ["net","place","last","number"] ["net","place","last","number"] (defScope s_j):=⟨rfl,rfl,rfl,by decide +kernel,rfl,by decide +kernel,by decide +kernel⟩
theorem sc_w1:FnScope ["net","orders","roads","taken","place","ring","road"] ["net","orders"] (defScope s_w1):=⟨rfl,rfl,rfl,by decide +kernel,rfl,by decide +kernel,by decide +kernel⟩
theorem sc_v1:FnScope ["net","number","many","tree","orders","place"] ["net","number"] (defScope s_v1):=⟨rfl,rfl,rfl,by decide +kernel,rfl,by decide +kernel,by decide +kernel⟩
theorem sc_a1:FnScope ["net","ring","roads","first","tree","number","many","place","order","free"] ["net","ring"] (defScope s_a1):=⟨rfl,rfl,rfl,by decide +kernel,rfl,by decide +kernel,by decide +kernel⟩
theorem sc_j1:FnScope ["signs","size","many","spot"] ["signs","size"] (defScope s_j1):=⟨rfl,rfl,rfl,by decide +kernel,rfl,by decide +kernel,by decide +kernel⟩
theorem sc_b1:FnScope ["signs","size"] ["signs","size"] (defScope s_b1):=⟨rfl,rfl,rfl,by decide +kernel,rfl,by decide +kernel,by decide +kernel⟩
theorem sc_r1:FnScope ["signs","size","places"] ["signs","size"] (defScope s_r1):=⟨rfl,rfl,rfl,by decide +kernel,rfl,by decide +kernel,by decide +kernel⟩
theorem sc_g:FnScope ["signs","size"] ["signs","size"] (defScope s_g):=⟨rfl,rfl,rfl,by decide +kernel,rfl,by decide +kernel,by decide +kernel⟩
theorem sc_m1:FnScope ["signs","size","number"] ["signs","size","number"] (defScope s_m1):=⟨rfl,rfl,rfl,by decide +kernel,rfl,by decide +kernel,by decide +kernel⟩
theorem sc_k:FnScope ["signs","size","ring","last","word","spot"] ["signs","size","ring","last"] (defScope s_k):=⟨rfl,rfl,rfl,by decide +kernel,rfl,by decide +kernel,by decide +kernel⟩
theorem sc_d:FnScope ["signs","size","ring","net"] ["signs","size","ring"] (defScope s_d):=⟨rfl,rfl,rfl,by decide +kernel,rfl,by decide +kernel,by decide +kernel⟩
theorem sc_o:FnScope ["script","k"] ["script","k"] (defScope s_o):=⟨rfl,rfl,rfl,by decide +kernel,rfl,by decide +kernel,by decide +kernel⟩
theorem sc_c1:FnScope ["found"] ["found"] (defScope s_c1):=⟨rfl,rfl,rfl,by decide +kernel,rfl,by decide +kernel,by decide +kernel⟩
theorem sc_d1:FnScope ["signs","size","rows","step","longer","row"] ["signs","size"] (defScope s_d1):=⟨rfl,rfl,rfl,by decide +kernel,rfl,by decide +kernel,by decide +kernel⟩
theorem sc_n1:FnScope ["signs","size","many","turns","k","whole"] ["signs","size","many"] (defScope s_n1):=⟨rfl,rfl,rfl,by decide +kernel,rfl,by decide +kernel,by decide +kernel⟩
theorem sc_s:FnScope ["cell","some"] ["cell"] (defScope s_s):=⟨rfl,rfl,rfl,by decide +kernel,rfl,by decide +kernel,by decide +kernel⟩
theorem sc_y1:FnScope ["script","choice","signs","size","words","net","shorter","due","many","n","ring","sign","met","k","told"] ["script"] (defScope s_y1):=⟨rfl,rfl,rfl,by decide +kernel,rfl,by decide +kernel,by decide +kernel⟩
section
variable {CX:CXT} {P:Program} {w:World} {K:PySem.W.Frag} {mg:Str→Option Value} {base:Heap} {t:Adr}
def sp_lies_within:Sp:=fun vs H Q _=>∃ a b:Int,vs=[.int a,.int b]∧Q (.bl (within a b)) H
theorem ok_t (c0:NoX CX) (T:Txt K mg t):FnOk P w K mg base CX 1 t.f_t t.d_t ["place","places"] sp_lies_within:=by
 refine T.F_t.okX sc_t (fun vs H Q E h=>?_) (fun cdv A outer s H vs Q E hr h=>?_)
 · obtain ⟨a,b,rfl,_⟩:=h
   rfl
 · obtain ⟨a,b,rfl,q⟩:=h
   refine ⟨_,(pss_one (ps_ret (pe_chain op_le op_lt pe_int (pv 0) (pv 1)))),?_⟩
   open_k with []
   by_cases h:0≤a
   · rw [if_pos (decide_eq_true h)]
     have e:within a b=decide (a < b):=by simp [within,h]
     rw [← e]; exact q
   · rw [if_neg (by simp [h])]
     have e:within a b=false:=by simp [within,h]
     rw [← e]; exact q
def sp_ends_lie_within (K:PySem.W.Frag):Sp:=fun vs H Q _=>∃ (p:Addr) (ps:List Pr) (n:Int),vs=[.ref p,.int n]∧PairsAt K H p ps∧ps.length≤1000∧∀ H',Same H H'→Q (.bl (endsOk n ps)) H'
theorem ok_e (c0:NoX CX) (T:Txt K mg t):FnOk P w K mg base CX 2 t.f_e t.d_e ["roads","places"] (sp_ends_lie_within K):=by
 refine T.F_e.okX sc_e (fun vs H Q E h=>?_) (fun cdv A outer s H vs Q E hr h=>?_)
 · obtain ⟨a,b,n,rfl,_⟩:=h
   rfl
 · obtain ⟨p,ps,n,rfl,⟨as,hs,ht⟩,hl,q⟩:=h
   have la:=ht.len
   refine ⟨_,(pss_one (ps_ret (pe_callB (call_all (by rfl)) (by rfl) T.n_all (by decide +kernel:bootBuiltins "all"=some (.builtin "all")) (pa_cons (pe_comp (own:=(["start","end"]:List Str)) (fr:=(["places"]:List Str)) (ix:=([1]:List Nat)) (by rfl) ⟨by rfl,by decide +kernel,by rfl,by rfl,by rfl⟩ (pi_list (pv 0)) (fun _=>(pg_tup (n:=2) (by rfl) (pgs_cons (pg_name (i:=0) (show List.Nodup (["start","end","places"]:List Str) by decide +kernel) (by rfl) (Or.inl rfl)) (pgs_cons (pg_name (i:=1) (show List.Nodup (["start","end","places"]:List Str) by decide +kernel) (by rfl) (Or.inl rfl)) pgs_nil)))) (fun _ hB=>pts_nil) (fun _ hB=>(pe_and (pe_call (ok_t c0 T) (hr.mono (by decide)) (by rfl) T.m_t T.F_t.kp T.b_t .nil (pass1 c0) (pa_cons (pv 0) (pa_cons (pv 2) pa_nil))) (pe_one (pe_call (ok_t c0 T) (hr.mono (by decide)) (by rfl) T.m_t T.F_t.kp T.b_t .nil (pass1 c0) (pa_cons (pv 1) (pa_cons (pv 2) pa_nil))))))) pa_nil)))),?_⟩
   open_k with []
   refine ⟨⟨_,hs⟩,blk_list (xs:=as.map V.ref) (fun i ys σ H'=>∃ u v,σ=[u,v,some (.int n)]∧Same H H'∧ys=((ps.take i).map fun q=>V.bl (within q.1 n && within q.2 n))) (by rw [List.length_map,la]; exact small_le hl) ⟨none,none,rfl,Same.refl _,rfl⟩ ?_ ?_ ?_⟩
   · rintro i ys σ H1 hi ⟨u,v,rfl,s1,rfl⟩
     exact ⟨s1.seq hs,by simp; omega⟩
   · rintro bk i x ys σ H1 hx ⟨u,v,rfl,s1,rfl⟩
     obtain ⟨a,rfl,ha⟩:=map_ref hx
     obtain ⟨q,hq,hH⟩:=ht.get ha
     refine gtup2 (SqT.of (s1 _ _ hH)) ?_
     open_k with [sp_lies_within]
     rw [take_map_succ _ hq]
     cases e:within q.1 n <;> simp [e,s1]
   · rintro ys σ H1 D ⟨u,v,rfl,s1,rfl⟩ hD
     refine ⟨_,rfl,ps.map fun q=>within q.1 n && within q.2 n,?_,?_⟩
     · rw [List.length_map,la,List.take_length,List.map_map]
       exact SqL.of upd_same
     · have e:endsOk n ps=(ps.map fun q=>within q.1 n && within q.2 n).all id:=by simp [endsOk]
       rw [← e]
       exact q _ (s1.upd' hD)
def sp_each_place_has_exit (K:PySem.W.Frag):Sp:=fun vs H Q _=>∃ (p:Addr) (ps:List Pr) (n:Int),vs=[.ref p,.int n]∧PairsAt K H p ps∧ps.length≤1000∧n≤1000 ∧ -1000≤n∧∀ H',Same H H'→Q (.bl (exitsOk n ps)) H'
theorem ok_a (c0:NoX CX) (T:Txt K mg t):FnOk P w K mg base CX 1 t.f_a t.d_a ["roads","places"] (sp_each_place_has_exit K):=by
 refine T.F_a.okX sc_a (fun vs H Q E h=>?_) (fun cdv A outer s H vs Q E hr h=>?_)
 · obtain ⟨a,b,n,rfl,_⟩:=h
   rfl
 · obtain ⟨p,ps,n,rfl,⟨as,hs,ht⟩,hl,hn1,hn2,q⟩:=h
   have la:=ht.len
   refine ⟨_,(pss_cons (ps_set (i:=2) sc_a.nd (by rfl) (Or.inr rfl) (pe_comp (own:=(["start","end"]:List Str)) (fr:=([]:List Str)) (ix:=([]:List Nat)) (by rfl) ⟨by rfl,by decide +kernel,by rfl,by rfl,by rfl⟩ (pi_list (pv 0)) (fun _=>(pg_tup (n:=2) (by rfl) (pgs_cons (pg_name (i:=0) (show List.Nodup (["start","end"]:List Str) by decide +kernel) (by rfl) (Or.inl rfl)) (pgs_cons (pg_name (i:=1) (show List.Nodup (["start","end"]:List Str) by decide +kernel) (by rfl) (Or.inl rfl)) pgs_nil)))) (fun _ hB=>pts_nil) (fun _ hB=>(pv 0))))
 (pss_one (ps_ret (pe_callB (call_all (by rfl)) (by rfl) T.n_all (by decide +kernel:bootBuiltins "all"=some (.builtin "all")) (pa_cons (pe_comp (own:=(["place"]:List Str)) (fr:=(["starts"]:List Str)) (ix:=([2]:List Nat)) (by rfl) ⟨by rfl,by decide +kernel,by rfl,by rfl,by rfl⟩ (pi_range1 (by rfl) T.n_range (pa_cons (pv 1) pa_nil)) (fun _=>(pg_name (i:=0) (show List.Nodup (["place","starts"]:List Str) by decide +kernel) (by rfl) (Or.inl rfl))) (fun _ hB=>pts_nil) (fun _ hB=>(pe_cmpR op_in_seq (pv 0) (pv 1) (by with_unfolding_all rfl)))) pa_nil))))),?_⟩
   open_k with []
   refine ⟨⟨_,hs⟩,blk_list (xs:=as.map V.ref) (fun i ys σ H'=>∃ u v,σ=[u,v]∧Same H H'∧ys=((ps.take i).map fun q=>V.int q.1)) (by rw [List.length_map,la]; exact small_le hl) ⟨none,none,rfl,Same.refl _,rfl⟩ ?_ ?_ ?_⟩
   · rintro i ys σ H1 hi ⟨u,v,rfl,s1,rfl⟩
     exact ⟨s1.seq hs,by simp; omega⟩
   · rintro bk i x ys σ H1 hx ⟨u,v,rfl,s1,rfl⟩
     obtain ⟨a,rfl,ha⟩:=map_ref hx
     obtain ⟨q,hq,hH⟩:=ht.get ha
     refine gtup2 (SqT.of (s1 _ _ hH)) ?_
     open_k with []
     rw [take_map_succ _ hq]
     exact ⟨s1,rfl⟩
   · rintro ys σ H1 D ⟨u,v,rfl,s1,rfl⟩ hD
     rw [List.length_map,la,List.take_length]
     refine ⟨by omega,by omega,blk_range (fun i ys σ H'=>∃ u,σ=[u,some (.ref D)]∧Same (upd H1 D (.lst (ps.map fun q=>V.int q.1))) H'∧ys=((List.range i).map fun (k:Nat)=>V.bl (ps.any fun q=>q.1 == (k:Int)))) (small_le (by omega)) ⟨none,rfl,Same.refl _,rfl⟩ ?_ ?_ ?_⟩
     · rintro i ys σ H2 hi ⟨u,rfl,s2,rfl⟩
       simp
     · rintro bk i ys σ H2 hi ⟨u,rfl,s2,rfl⟩
       open_k with [rIn]
       refine ⟨_,Or.inl (SqL.of (s2 _ _ upd_same)),rfl,?_,?_⟩
       · simp [flatV]
       · refine ⟨s2,?_⟩
         rw [List.range_succ,List.map_append]
         simp [inV,eqV,List.any_map,Function.comp_def]
     · rintro ys σ H2 D2 ⟨u,rfl,s2,rfl⟩ hD2
       refine ⟨_,rfl,(List.range n.toNat).map fun (k:Nat)=>ps.any fun q=>q.1 == (k:Int),?_,?_⟩
       · rw [List.map_map]
         exact SqL.of upd_same
       · have e:exitsOk n ps=((List.range n.toNat).map fun (k:Nat)=>ps.any fun q=>q.1 == (k:Int)).all id:=by simp [exitsOk,List.all_map,Function.comp_def]
         rw [← e]
         exact q _ ((s1.upd' hD).trans (s2.upd' hD2))
theorem netOk_parts {n:Int} {ps:List Pr} (h:netOk n ps=true):(1≤n∧n≤32)∧(1≤ps.length∧ps.length≤64)∧endsOk n ps=true∧exitsOk n ps=true:=by
 simp only [netOk,Bool.and_eq_true,decide_eq_true_eq] at h
 obtain ⟨⟨⟨a,b⟩,c⟩,d⟩:=h
 exact ⟨a,b,c,d⟩
def sp_check_net (K:PySem.W.Frag):Sp:=fun vs H Q _=>∃ (p:Addr) (ps:List Pr) (n:Int),vs=[.int n,.ref p]∧PairsAt K H p ps∧netOk n ps=true∧∀ H',Same H H'→Q .non H'
theorem ok_k1 (c0:NoX CX) (T:Txt K mg t):FnOk P w K mg base CX 3 t.f_k1 t.d_k1 ["places","roads"] (sp_check_net K):=by
 refine T.F_k1.okX sc_k1 (fun vs H Q E h=>?_) (fun cdv A outer s H vs Q E hr h=>?_)
 · obtain ⟨a,b,n,rfl,_⟩:=h
   rfl
 · obtain ⟨p,ps,n,rfl,hp,hn,q⟩:=h
   obtain ⟨⟨n1,n2⟩,⟨l1,l2⟩,he,hx⟩:=netOk_parts hn
   obtain ⟨as,hs,ht⟩:=id hp
   have la:=ht.len
   refine ⟨_,(pss_cons (ps_if (pt_not (pt_chain op_le op_le pe_int (pv 0) (pe_glob (by rfl) T.m_MOST_PLACES T.r_MOST_PLACES)))
 (pss_one ps_never)
 pss_nil)
 (pss_cons (ps_if (pt_not (pt_chain op_le op_le pe_int (pe_callB call_len (by rfl) T.n_len (by decide +kernel:bootBuiltins "len"=some (.builtin "len")) (pa_cons (pv 1) pa_nil)) (pe_glob (by rfl) T.m_MOST_ROADS T.r_MOST_ROADS)))
 (pss_one ps_never)
 pss_nil)
 (pss_cons (ps_if (pt_not (pt_val (pe_call (ok_e c0 T) (hr.mono (by decide)) (by rfl) T.m_e T.F_e.kp T.b_e .nil (pass1 c0) (pa_cons (pv 1) (pa_cons (pv 0) pa_nil)))))
 (pss_one ps_never)
 pss_nil)
 (pss_one (ps_if (pt_not (pt_val (pe_call (ok_a c0 T) (hr.mono (by decide)) (by rfl) T.m_a T.F_a.kp T.b_a .nil (pass1 c0) (pa_cons (pv 1) (pa_cons (pv 0) pa_nil)))))
 (pss_one ps_never)
 pss_nil))))),?_⟩
   open_k with []
   rw [if_pos (decide_eq_true n1),if_neg (by simp [n2])]
   refine ⟨_,lenL hs,?_⟩
   rw [List.length_map,la,if_pos (decide_eq_true (by omega)),if_neg (by rw [decide_eq_true (by omega)]; simp)]
   refine ⟨p,ps,n,rfl,hp,by omega,fun H1 s1=>?_⟩
   rw [he]
   refine ⟨_,rfl,iteF ?_⟩
   refine ⟨p,ps,n,rfl,hp.same s1,by omega,by omega,by omega,fun H2 s2=>?_⟩
   rw [hx]
   exact ⟨_,rfl,iteF (q H2 (s1.trans s2))⟩
theorem kc:¬ (("place_count":Str)="road_pairs"):=by decide +kernel
def nfl (l:Addr) (n:Int):List (Str × V):=putF "road_pairs" (.ref l) (putF "place_count" (.int n) [])
theorem nfl_count (l:Addr) (n:Int):(nfl l n).lookup ("place_count":Str)=some (.int n):=by
 unfold nfl
 rw [lookup_putF,if_neg kc,lookup_putF,if_pos rfl]
theorem nfl_pairs (l:Addr) (n:Int):(nfl l n).lookup ("road_pairs":Str)=some (.ref l):=by
 unfold nfl
 rw [lookup_putF,if_pos rfl]
theorem nfl_no (l:Addr) (n:Int) {m:Str} (h1:¬ m="place_count") (h2:¬ m="road_pairs"):(nfl l n).lookup m=none:=by
 unfold nfl
 rw [lookup_putF,if_neg h2,lookup_putF,if_neg h1]
 all_goals rfl
structure NetAt (C:Addr) (H:Hp) (x:Addr) (l:Addr) (as:List Addr) (n:Int) (ps:List Pr):Prop where
 ob:∃ dx,H x=some (.ins C dx (nfl l n))
 ls:H l=some (.lst (as.map V.ref))
 ts:TupsAt H as ps
 ok:netOk n ps=true
theorem NetAt.same {C:Addr} {H H':Hp} {x l:Addr} {as:List Addr} {n:Int} {ps:List Pr} (N:NetAt C H x l as n ps) (s:Same H H'):NetAt C H' x l as n ps :=
 ⟨let ⟨dx,e⟩:=N.ob; ⟨dx,s _ _ e⟩,s _ _ N.ls,N.ts.same s,N.ok⟩
def sp_init (K:PySem.W.Frag) (C:Addr):Sp:=fun vs H Q _=>∃ (x dx p:Addr) (ps:List Pr) (n:Int),vs=[.ref x,.int n,.ref p]∧H x=some (.ins C dx [])∧PairsAt K H p ps∧netOk n ps=true ∧
 ∀ (l:Addr) (as:List Addr) (H':Hp),H l=none→(∀ b o,H b=some o→b ≠ x→H' b=some o)→NetAt C H' x l as n ps→Q .non H'
theorem ok_l (c0:NoX CX) (T:Txt K mg t):FnOk P w K mg base CX 4 t.f_l t.d_l ["self","places","roads"] (sp_init K t.C_Net):=by
 refine T.F_l.okX sc_l (fun vs H Q E h=>?_) (fun cdv A outer s H vs Q E hr h=>?_)
 · obtain ⟨x,dx,p,ps,n,rfl,_⟩:=h
   rfl
 · obtain ⟨x,dx,p,ps,n,rfl,hx,hp,hn,q⟩:=h
   obtain ⟨⟨n1,n2⟩,⟨l1,l2⟩,_,_⟩:=netOk_parts hn
   obtain ⟨as,hs,ht⟩:=id hp
   have la:=ht.len
   refine ⟨_,(pss_cons (ps_expr (pe_call (ok_k1 c0 T) (hr.mono (by decide)) (by rfl) T.m_k1 T.F_k1.kp T.b_k1 .nil (pass1 c0) (pa_cons (pv 1) (pa_cons (pv 2) pa_nil))))
 (pss_cons (ps_fld (pv 0) (pv 1) (by rfl))
 (pss_one (ps_fld (pv 0) (pe_comp (own:=(["start","end"]:List Str)) (fr:=([]:List Str)) (ix:=([]:List Nat)) (by rfl) ⟨by rfl,by decide +kernel,by rfl,by rfl,by rfl⟩ (pi_list (pv 2)) (fun _=>(pg_tup (n:=2) (by rfl) (pgs_cons (pg_name (i:=0) (show List.Nodup (["start","end"]:List Str) by decide +kernel) (by rfl) (Or.inl rfl)) (pgs_cons (pg_name (i:=1) (show List.Nodup (["start","end"]:List Str) by decide +kernel) (by rfl) (Or.inl rfl)) pgs_nil)))) (fun _ hB=>pts_nil) (fun _ hB=>(pe_tup (pa_cons (pv 0) (pa_cons (pv 1) pa_nil))))) (by rfl))))),?_⟩
   open_k with []
   refine ⟨p,ps,n,rfl,hp,hn,fun H1 s1=>?_⟩
   have hx1:=s1 _ _ hx
   have c1:∀ b o,H b=some o→b ≠ x→upd H1 x (.ins t.C_Net dx (putF "place_count" (.int n) [])) b=some o:=fun b o e hb=>by rw [upd_ne hb]; exact s1 _ _ e
   have npx:∀ xs,SqL K H1 p xs→SqL K (upd H1 x (.ins t.C_Net dx (putF "place_count" (.int n) []))) p xs:=fun xs h=>by
    rcases h with (h | ⟨o,h⟩) | h
    · exact .inl (.inl (by rw [upd_ne (ne_of h hx1 (by intro z; cases z))]; exact h))
    · exact .inl (.inr ⟨o,by rw [upd_ne (ne_of h hx1 (by intro z; cases z))]; exact h⟩)
    · exact .inr h
   have hs1:=npx _ (s1.seq hs)
   have ht1:TupsAt (upd H1 x (.ins t.C_Net dx (putF "place_count" (.int n) []))) as ps:=(ht.same s1).upd hx1 (by intro xs z; cases z)
   refine ⟨t.C_Net,dx,[],hx1,T.cl_Net,T.na_Net_place_count,by show 0 < 1000; decide,⟨_,hs1⟩,blk_list (xs:=as.map V.ref) (fun i ys σ H'=>∃ u v bs,σ=[u,v]∧Same (upd H1 x (.ins t.C_Net dx (putF "place_count" (.int n) []))) H'∧ys=bs.map V.ref∧TupsAt H' bs (ps.take i))
    (by rw [List.length_map,la]; exact small_le (by omega)) ⟨none,none,[],rfl,Same.refl _,rfl,.nil⟩ ?_ ?_ ?_⟩
   · rintro i ys σ H2 hi ⟨u,v,bs,rfl,s2,rfl,tb⟩
     exact ⟨s2.seq hs1,by rw [List.length_map,tb.len]; simp; omega⟩
   · rintro bk i y ys σ H2 hy ⟨u,v,bs,rfl,s2,rfl,tb⟩
     obtain ⟨a,rfl,ha⟩:=map_ref hy
     obtain ⟨q',hq,hH⟩:=ht1.get ha
     refine gtup2 (SqT.of (s2 _ _ hH)) ?_
     open_k with []
     refine ⟨by decide,fun d hd=>⟨s2.upd' hd,bs++[d],by simp,?_⟩⟩
     rw [List.take_add_one,hq]
     exact (tb.same (Same.new hd)).append (.cons upd_same .nil)
   · rintro ys σ H2 D ⟨u,v,bs,rfl,s2,rfl,tb⟩ hD
     rw [List.length_map,la,List.take_length] at tb
     have hx2:upd H2 D (.lst (bs.map V.ref)) x=some (.ins t.C_Net dx (putF "place_count" (.int n) [])):=upd_old (s2 _ _ upd_same) hD
     refine ⟨t.C_Net,dx,_,hx2,T.cl_Net,T.na_Net_road_pairs,by show 1 < 1000; decide,?_⟩
     have nDx:D ≠ x:=fun z=>by rw [← z,upd_same] at hx2; cases hx2
     refine q D bs _ ?_ (fun b o e hb=>?_) ⟨⟨dx,upd_same⟩,by rw [upd_ne nDx,upd_same],?_,hn⟩
     · cases e:H D with
       | none=>rfl
       | some o=>rw [s2 _ _ (c1 D o e nDx)] at hD; cases hD
     · rw [upd_ne hb]
       exact upd_old (s2 _ _ (c1 b o e hb)) hD
     · exact (tb.same (Same.new hD)).upd hx2 (by intro xs z; cases z)
def sp_places (C:Addr):Sp:=fun vs H Q _=>∃ (x l:Addr) (as:List Addr) (n:Int) (ps:List Pr),vs=[.ref x]∧NetAt C H x l as n ps∧Q (.int n) H
theorem ok_v (c0:NoX CX) (T:Txt K mg t):FnOk P w K mg base CX 1 t.f_v t.d_v ["self"] (sp_places t.C_Net):=by
 refine T.F_v.okX sc_v (fun vs H Q E h=>?_) (fun cdv A outer s H vs Q E hr h=>?_)
 · obtain ⟨x,l,as,n,ps,rfl,_⟩:=h
   rfl
 · obtain ⟨x,l,as,n,ps,rfl,N,q⟩:=h
   obtain ⟨dx,ex⟩:=N.ob
   refine ⟨_,(pss_one (ps_ret (pe_fld (pv 0) (by rfl)))),?_⟩
   open_k with []
   exact ⟨_,_,_,ex,T.cl_Net,T.na_Net_place_count,_,nfl_count _ _,q⟩
def sp_roads (C:Addr):Sp:=fun vs H Q _=>∃ (x l:Addr) (as:List Addr) (n:Int) (ps:List Pr),vs=[.ref x]∧NetAt C H x l as n ps∧∀ d,H d=none→Q (.ref d) (upd H d (.lst (as.map V.ref)))
theorem ok_e1 (c0:NoX CX) (T:Txt K mg t):FnOk P w K mg base CX 1 t.f_e1 t.d_e1 ["self"] (sp_roads t.C_Net):=by
 refine T.F_e1.okX sc_e1 (fun vs H Q E h=>?_) (fun cdv A outer s H vs Q E hr h=>?_)
 · obtain ⟨x,l,as,n,ps,rfl,_⟩:=h
   rfl
 · obtain ⟨x,l,as,n,ps,rfl,N,q⟩:=h
   obtain ⟨dx,ex⟩:=N.ob
   refine ⟨_,(pss_one (ps_ret (pe_callTy call_list_of (by rfl) T.n_list (by decide +kernel:bootBuiltins "list"=some (.type "list")) (pa_cons (pe_fld (pv 0) (by rfl)) pa_nil)))),?_⟩
   open_k with []
   exact ⟨_,_,_,ex,T.cl_Net,T.na_Net_road_pairs,_,nfl_pairs _ _,_,rfl,_,Or.inl (SqL.of N.ls),q⟩
def sp_check_place:Sp:=fun vs H Q _=>∃ a b:Int,vs=[.int a,.int b]∧within a b=true∧Q .non H
theorem ok_u (c0:NoX CX) (T:Txt K mg t):FnOk P w K mg base CX 2 t.f_u t.d_u ["place","places"] sp_check_place:=by
 refine T.F_u.okX sc_u (fun vs H Q E h=>?_) (fun cdv A outer s H vs Q E hr h=>?_)
 · obtain ⟨a,b,rfl,_⟩:=h
   rfl
 · obtain ⟨a,b,rfl,hw,q⟩:=h
   refine ⟨_,(pss_one (ps_if (pt_not (pt_val (pe_call (ok_t c0 T) (hr.mono (by decide)) (by rfl) T.m_t T.F_t.kp T.b_t .nil (pass1 c0) (pa_cons (pv 0) (pa_cons (pv 1) pa_nil)))))
 (pss_one ps_never)
 pss_nil)),?_⟩
   open_k with []
   refine ⟨a,b,rfl,?_⟩
   rw [hw]
   exact ⟨_,rfl,iteF q⟩
def sp_exits (C:Addr):Sp:=fun vs H Q _=>∃ (x l:Addr) (as:List Addr) (n:Int) (ps:List Pr) (k:Int),vs=[.ref x,.int k]∧NetAt C H x l as n ps∧within k n=true ∧
 ∀ d H',Same H H'→H d=none→H' d=some (.lst (nats (exitsOf ps k)))→Q (.ref d) H'
theorem ok_f1 (c0:NoX CX) (T:Txt K mg t):FnOk P w K mg base CX 3 t.f_f1 t.d_f1 ["self","place"] (sp_exits t.C_Net):=by
 refine T.F_f1.okX sc_f1 (fun vs H Q E h=>?_) (fun cdv A outer s H vs Q E hr h=>?_)
 · obtain ⟨x,l,as,n,ps,k,rfl,_⟩:=h
   rfl
 · obtain ⟨x,l,as,n,ps,k,rfl,N,hk,q⟩:=h
   obtain ⟨dx,ex⟩:=N.ob
   obtain ⟨_,⟨l1,l2⟩,_,_⟩:=netOk_parts N.ok
   have la:=N.ts.len
   refine ⟨_,(pss_cons (ps_expr (pe_call (ok_u c0 T) (hr.mono (by decide)) (by rfl) T.m_u T.F_u.kp T.b_u .nil (pass1 c0) (pa_cons (pv 1) (pa_cons (pe_fld (pv 0) (by rfl)) pa_nil))))
 (pss_one (ps_ret (pe_comp (own:=(["number","road"]:List Str)) (fr:=(["place"]:List Str)) (ix:=([1]:List Nat)) (by rfl) ⟨by rfl,by decide +kernel,by rfl,by rfl,by rfl⟩ (pi_enum (by rfl) T.n_enumerate (pa_cons (pe_fld (pv 0) (by rfl)) pa_nil)) (fun _=>(pg_tup (n:=2) (by rfl) (pgs_cons (pg_name (i:=0) (show List.Nodup (["number","road","place"]:List Str) by decide +kernel) (by rfl) (Or.inl rfl)) (pgs_cons (pg_name (i:=1) (show List.Nodup (["number","road","place"]:List Str) by decide +kernel) (by rfl) (Or.inl rfl)) pgs_nil)))) (fun _ hB=>(pts_one (pt_cmpR op_eq (pe_ix ix_tup (pv 1) pe_int (fun _ _=>rfl)) (pv 2) (nomark _)))) (fun _ hB=>(pv 0)))))),?_⟩
   open_k with []
   refine ⟨_,_,_,ex,T.cl_Net,T.na_Net_place_count,_,nfl_count _ _,k,n,rfl,hk,?_⟩
   refine ⟨_,_,_,ex,T.cl_Net,T.na_Net_road_pairs,_,nfl_pairs _ _,l,rfl,⟨_,SqL.of N.ls⟩,blk_enum (xs:=as.map V.ref) (fun i ys σ H'=>∃ u v,σ=[u,v,some (.int k)]∧Same H H'∧ys=nats (exitsUp ps k i))
    (by rw [List.length_map,la]; exact small_le (by omega)) ⟨none,none,rfl,Same.refl _,rfl⟩ ?_ ?_ ?_⟩
   · rintro i ys σ H2 hi ⟨u,v,rfl,s2,rfl⟩
     exact ⟨SqL.of (s2 _ _ N.ls),by unfold nats; rw [List.length_map]; exact exitsUp_len _ _ _⟩
   · rintro bk i y ys σ H2 d hy ⟨u,v,rfl,s2,rfl⟩ hd
     obtain ⟨a,rfl,ha⟩:=map_ref hy
     obtain ⟨q',hq,hH⟩:=N.ts.get ha
     refine gtup2 (SqT.of upd_same) ?_
     open_k with [rIxT]
     refine ⟨[.int q'.1,.int q'.2],SqT.of (upd_old (s2 _ _ hH) hd),_,atI_nat (j:=0) rfl,rfl,?_⟩
     have e:(ps.getD i (0,0)).1=q'.1:=by rw [List.getD_eq_getElem?_getD,hq]; rfl
     rw [exitsUp_succ,e,nats_append]
     by_cases h:q'.1=k
     · simp [h,nats,s2.upd' hd]
     · simp [h,nats,s2.upd' hd]
   · rintro ys σ H2 D ⟨u,v,rfl,s2,rfl⟩ hD
     refine q D _ (s2.upd' hD) (s2.free hD) ?_
     rw [upd_same,List.length_map,la]
     rfl
def sp_lone_row:Sp:=fun vs H Q _=>∃ (s n:Nat),vs=[.int s,.int n]∧n≤1000∧∀ d,H d=none→Q (.ref d) (upd H d (.lst (rowV n fun p=>if p=s then 1 else 0)))
theorem ok_o1 (c0:NoX CX) (T:Txt K mg t):FnOk P w K mg base CX 1 t.f_o1 t.d_o1 ["stop","places"] sp_lone_row:=by
 refine T.F_o1.okX sc_o1 (fun vs H Q E h=>?_) (fun cdv A outer s H vs Q E hr h=>?_)
 · obtain ⟨a,b,rfl,_⟩:=h
   rfl
 · obtain ⟨k,n,rfl,hn,q⟩:=h
   refine ⟨_,(pss_one (ps_ret (pe_comp (own:=(["place"]:List Str)) (fr:=(["stop"]:List Str)) (ix:=([0]:List Nat)) (by rfl) ⟨by rfl,by decide +kernel,by rfl,by rfl,by rfl⟩ (pi_range1 (by rfl) T.n_range (pa_cons (pv 1) pa_nil)) (fun _=>(pg_name (i:=0) (show List.Nodup (["place","stop"]:List Str) by decide +kernel) (by rfl) (Or.inl rfl))) (fun _ hB=>pts_nil) (fun _ hB=>(pe_ifExp (pt_cmpR op_eq (pv 0) (pv 1) (nomark _)) pe_int pe_int))))),?_⟩
   open_k with []
   refine ⟨by omega,by omega,blk_range (fun i ys σ H'=>∃ u,σ=[u,some (.int k)]∧H'=H∧ys=rowV i fun p=>if p=k then 1 else 0) (by rw [Int.toNat_natCast]; exact small_le hn) ⟨none,rfl,rfl,rfl⟩ ?_ ?_ ?_⟩
   · rintro i ys σ H2 hi ⟨u,rfl,rfl,rfl⟩
     rw [rowV_len]
     exact Nat.le_refl _
   · rintro bk i ys σ H2 hi ⟨u,rfl,rfl,rfl⟩
     open_k with [Int.zero_add]
     refine ⟨rfl,?_⟩
     rw [rowV_succ]
     by_cases h:i=k
     · subst h
       simp
     · have h':¬ ((i:Nat):Int)=((k:Nat):Int):=by omega
       simp [h,h']
   · rintro ys σ H2 D ⟨u,rfl,rfl,rfl⟩ hD
     rw [Int.toNat_natCast]
     exact q D hD
def sp_tally_init (C:Addr):Sp:=fun vs H Q _=>∃ (x dx:Addr) (n:Nat),vs=[.ref x,.int n]∧H x=some (.ins C dx [])∧n≤1000 ∧
 ∀ (L:Addr) (rs:List Addr) (H':Hp),(∀ b o,H b=some o→b ≠ x→H' b=some o)→TallyAt C H' x L rs n 1 (fun s p=>if p=s then 1 else 0)→Q .non H'
theorem ok_f (c0:NoX CX) (T:Txt K mg t):FnOk P w K mg base CX 2 t.f_f t.d_f ["self","places"] (sp_tally_init t.C_Tally):=by
 refine T.F_f.okX sc_f (fun vs H Q E h=>?_) (fun cdv A outer s H vs Q E hr h=>?_)
 · obtain ⟨x,dx,n,rfl,_⟩:=h
   rfl
 · obtain ⟨x,dx,n,rfl,hx,hn,q⟩:=h
   refine ⟨_,(pss_cons (ps_fld (pv 0) pe_int (by rfl))
 (pss_one (ps_fld (pv 0) (pe_comp (own:=(["stop"]:List Str)) (fr:=(["places"]:List Str)) (ix:=([1]:List Nat)) (by rfl) ⟨by rfl,by decide +kernel,by rfl,by rfl,by rfl⟩ (pi_range1 (by rfl) T.n_range (pa_cons (pv 1) pa_nil)) (fun _=>(pg_name (i:=0) (show List.Nodup (["stop","places"]:List Str) by decide +kernel) (by rfl) (Or.inl rfl))) (fun _ hB=>pts_nil) (fun _ hB=>(pe_call (ok_o1 c0 T) (hr.mono (by decide)) (by rfl) T.m_o1 T.F_o1.kp T.b_o1 .nil (pass1 c0) (pa_cons (pv 0) (pa_cons (pv 1) pa_nil))))) (by rfl)))),?_⟩
   open_k with []
   refine ⟨t.C_Tally,dx,[],hx,T.cl_Tally,T.na_Tally_many,by show 0 < 1000; decide,?_⟩
   have c1:∀ b o,H b=some o→b ≠ x→upd H x (.ins t.C_Tally dx (putF "many" (.int 1) [])) b=some o:=fun b o e hb=>by rw [upd_ne hb]; exact e
   have e1:upd H x (.ins t.C_Tally dx (putF "many" (.int 1) [])) x=some (.ins t.C_Tally dx (putF "many" (.int 1) [])):=upd_same
   generalize upd H x (.ins t.C_Tally dx (putF "many" (.int 1) []))=H1 at *
   refine ⟨by omega,by omega,blk_range (fun i ys σ H'=>∃ u rs,σ=[u,some (.int n)]∧Same H1 H'∧ys=rs.map V.ref∧rs.length=i∧∀ (s:Nat) (a:Addr),rs[s]?=some a→H' a=some (.lst (rowV n fun p=>if p=s then 1 else 0)))
    (by rw [Int.toNat_natCast]; exact small_le hn) ⟨none,[],rfl,Same.refl _,rfl,rfl,fun s a h=>by cases h⟩ ?_ ?_ ?_⟩
   · rintro i ys σ H2 hi ⟨u,rs,rfl,s2,rfl,hl,hr2⟩
     rw [List.length_map,hl]
     exact Nat.le_refl _
   · rintro bk i ys σ H2 hi ⟨u,rs,rfl,s2,rfl,hl,hr2⟩
     open_k with [Int.zero_add]
     refine ⟨i,n,rfl,hn,fun d hd=>⟨s2.upd' hd,rs++[d],by simp,by simp [hl],fun s a h=>?_⟩⟩
     by_cases hs:s < rs.length
     · rw [List.getElem?_append_left hs] at h
       exact upd_old (hr2 s a h) hd
     · have h1:s=rs.length:=by
        obtain ⟨h1,_⟩:=List.getElem?_eq_some_iff.mp h
        simp at h1
        omega
       subst h1
       have h2:d=a:=by simpa using h
       subst h2
       rw [upd_same,hl]
   · rintro ys σ H2 D ⟨u,rs,rfl,s2,rfl,hl,hr2⟩ hD
     rw [Int.toNat_natCast] at hl
     have hx2:upd H2 D (.lst (rs.map V.ref)) x=some (.ins t.C_Tally dx (putF "many" (.int 1) [])):=upd_old (s2 _ _ e1) hD
     refine ⟨t.C_Tally,dx,_,hx2,T.cl_Tally,T.na_Tally_stopped,by show 1 < 1000; decide,?_⟩
     have nDx:D ≠ x:=fun z=>by rw [← z,upd_same] at hx2; cases hx2
     refine q D rs _ (fun b o e hb=>?_) ⟨⟨dx,upd_same⟩,by rw [upd_ne nDx,upd_same],hl,fun s a h=>?_⟩
     · rw [upd_ne hb]
       exact upd_old (s2 _ _ (c1 b o e hb)) hD
     · have h3:=upd_old (o:=HO.lst (rs.map V.ref)) (hr2 s a h) hD
       rw [upd_ne (ne_of h3 hx2 (by intro z; cases z))]
       exact h3
def sp_many_by (C:Addr):Sp:=fun vs H Q _=>∃ (x L:Addr) (rs:List Addr) (n p e:Nat) (m:Int) (R:Nat→Nat→Int),vs=[.ref x,.int p,.int e]∧TallyAt C H x L rs n m R∧p < n∧e < n∧Q (.int (R p p - R p e)) H
theorem ok_h (c0:NoX CX) (T:Txt K mg t):FnOk P w K mg base CX 1 t.f_h t.d_h ["self","place","end"] (sp_many_by t.C_Tally):=by
 refine T.F_h.okX sc_h (fun vs H Q E h=>?_) (fun cdv A outer s H vs Q E hr h=>?_)
 · obtain ⟨x,L,rs,n,p,e,m,R,rfl,_⟩:=h
   rfl
 · obtain ⟨x,L,rs,n,p,e,m,R,rfl,W,hp,he,q⟩:=h
   obtain ⟨dx,ex⟩:=W.ob
   obtain ⟨a,_,ia,ha⟩:=W.get hp
   refine ⟨_,(pss_one (ps_ret (pe_op op_sub (pe_ix ix_list (pe_ix ix_list (pe_fld (pv 0) (by rfl)) (pv 1) (fun _ _=>rfl)) (pv 1) (fun _ _=>rfl)) (pe_ix ix_list (pe_ix ix_list (pe_fld (pv 0) (by rfl)) (pv 1) (fun _ _=>rfl)) (pv 2) (fun _ _=>rfl))))),?_⟩
   open_k with [rIxL]
   exact ⟨_,_,_,ex,T.cl_Tally,T.na_Tally_stopped,_,tfl_stopped _ _,L,rfl,_,SqL.of W.ls,_,ia,a,rfl,_,SqL.of ha,_,row_at _ hp,_,_,_,ex,T.cl_Tally,T.na_Tally_stopped,_,tfl_stopped _ _,L,rfl,_,SqL.of W.ls,_,ia,a,rfl,_,SqL.of ha,_,row_at _ he,_,rfl,_,rfl,q⟩
def sp_changed_row (C:Addr):Sp:=fun vs H Q _=>∃ (x L e:Addr) (rs:List Addr) (n s k:Nat) (m:Int) (R:Nat→Nat→Int) (es:List Nat),vs=[.ref x,.int s,.int k,.ref e,.int (shf R es k k)]∧TallyAt C H x L rs n m R∧H e=some (.lst (nats es)) ∧
 s < n∧k < n∧n≤32∧(∀ y∈es,y < n)∧es.length≤64∧GiveOk n k m R es∧∀ d H',Same H H'→H' d=some (.lst (rowV n (chg m R es k s)))→Q (.ref d) H'
theorem ok_b (c0:NoX CX) (T:Txt K mg t):FnOk P w K mg base CX 1 t.f_b t.d_b ["self","stop","place","ends","many"] (sp_changed_row t.C_Tally):=by
 refine T.F_b.okX sc_b (fun vs H Q E h=>?_) (fun cdv A outer s H vs Q E hr h=>?_)
 · obtain ⟨x,L,e,rs,n,s,k,m,R,es,rfl,_⟩:=h
   rfl
 · obtain ⟨x,L,e,rs,n,s,k,m,R,es,rfl,W,he,hs,hk,hn,hes,hl,G,q⟩:=h
   obtain ⟨dx,ex⟩:=W.ob
   obtain ⟨a,_,ia,ha⟩:=W.get hs
   obtain ⟨b,_,ib,hb⟩:=W.get hk
   refine ⟨_,(pss_cons (ps_set (i:=5) sc_b.nd (by rfl) (Or.inr rfl) (pe_ix ix_list (pe_fld (pv 0) (by rfl)) (pv 1) (fun _ _=>rfl)))
 (pss_cons (ps_if (pt_cmpR op_eq (pv 1) (pv 2) (nomark _))
 (pss_one (ps_ret (pv 5)))
 pss_nil)
 (pss_cons (ps_set (i:=6) sc_b.nd (by rfl) (Or.inr rfl) (pe_callB (call_sum (by rfl)) (by rfl) T.n_sum (by decide +kernel:bootBuiltins "sum"=some (.builtin "sum")) (pa_cons (pe_comp (own:=(["end"]:List Str)) (fr:=(["row","place"]:List Str)) (ix:=([5,2]:List Nat)) (by rfl) ⟨by rfl,by decide +kernel,by rfl,by rfl,by rfl⟩ (pi_list (pv 3)) (fun _=>(pg_name (i:=0) (show List.Nodup (["end","row","place"]:List Str) by decide +kernel) (by rfl) (Or.inl rfl))) (fun _ hB=>pts_nil) (fun _ hB=>(pe_op op_sub (pe_ix ix_list (pv 1) (pv 2) (fun _ _=>rfl)) (pe_ix ix_list (pv 1) (pv 0) (fun _ _=>rfl))))) pa_nil)))
 (pss_one (ps_ret (pe_comp (own:=(["old","cut"]:List Str)) (fr:=(["self","many","shift"]:List Str)) (ix:=([0,4,6]:List Nat)) (by rfl) ⟨by rfl,by decide +kernel,by rfl,by rfl,by rfl⟩ (pi_zip (by rfl) T.n_zip (pa_cons (pv 5) (pa_cons (pe_ix ix_list (pe_fld (pv 0) (by rfl)) (pv 2) (fun _ _=>rfl)) pa_nil))) (fun _=>(pg_tup (n:=2) (by rfl) (pgs_cons (pg_name (i:=0) (show List.Nodup (["old","cut","self","many","shift"]:List Str) by decide +kernel) (by rfl) (Or.inl rfl)) (pgs_cons (pg_name (i:=1) (show List.Nodup (["old","cut","self","many","shift"]:List Str) by decide +kernel) (by rfl) (Or.inl rfl)) pgs_nil)))) (fun _ hB=>pts_nil) (fun _ hB=>(pe_op op_fdivB (pe_op op_sub (pe_op op_mulB (pv 3) (pv 0)) (pe_op op_mulB (pv 4) (pv 1))) (pe_fld (pv 2) (by rfl)))))))))),?_⟩
   open_k with [rIxL]
   refine ⟨_,_,_,ex,T.cl_Tally,T.na_Tally_stopped,_,tfl_stopped _ _,L,rfl,_,SqL.of W.ls,_,ia,rfl,?_⟩
   by_cases c:s=k
   · subst c
     rw [if_pos (by simp)]
     refine q a H (Same.refl _) ?_
     rw [ha]
     congr 2
     exact rowV_congr fun p hp=>by simp [chg]
   · rw [if_neg (by simp; omega)]
     refine ⟨⟨_,SqL.of he⟩,blk_list (xs:=nats es) (fun i ys σ H'=>∃ u,σ=[u,some (.ref a),some (.int k)]∧H'=H∧ys=((es.take i).map fun y=>R s k - R s y).map V.int)
      (by unfold nats; rw [List.length_map]; exact small_le (by omega)) ⟨none,rfl,rfl,rfl⟩ ?_ ?_ ?_⟩
     · rintro i ys σ H2 hi ⟨u,rfl,rfl,rfl⟩
       exact ⟨SqL.of he,by simp; omega⟩
     · rintro bk i y ys σ H2 hy ⟨u,rfl,rfl,rfl⟩
       obtain ⟨y0,e0,rfl⟩:∃ y0,es[i]?=some y0∧y=.int ((y0:Nat):Int):=by
        unfold nats at hy
        rw [List.getElem?_map] at hy
        cases h:es[i]? with
        | none=>rw [h] at hy; cases hy
        | some y0=>rw [h] at hy; exact ⟨y0,rfl,(Option.some.inj hy).symm⟩
       have hy0:=hes y0 (List.mem_of_getElem? e0)
       open_k with [rIxL]
       refine ⟨_,SqL.of ha,_,row_at _ hk,_,SqL.of ha,_,row_at _ hy0,_,rfl,_,rfl,?_⟩
       rw [List.take_add_one,e0]
       simp
     · rintro ys σ H2 D ⟨u,rfl,rfl,rfl⟩ hD
       have ln:(nats es).length=es.length:=by unfold nats; rw [List.length_map]
       rw [ln,List.take_length]
       refine ⟨_,rfl,_,SqL.of upd_same,?_⟩
       have es1:(es.map fun y=>R s k - R s y).sum=shf R es k s:=rfl
       rw [es1]
       have s1:Same H2 (upd H2 D (.lst ((es.map fun y=>R s k - R s y).map V.int))):=Same.new hD
       generalize upd H2 D (.lst ((es.map fun y=>R s k - R s y).map V.int))=H1 at *
       have W1:=W.same s1
       have ex1:=s1 _ _ ex
       refine ⟨_,_,_,ex1,T.cl_Tally,T.na_Tally_stopped,_,tfl_stopped _ _,L,rfl,_,SqL.of W1.ls,_,ib,a,rfl,b,rfl,⟨_,SqL.of (s1 _ _ ha)⟩,⟨_,SqL.of (s1 _ _ hb)⟩,blk_zip (xs:=rowV n (R s)) (ys0:=rowV n (R k)) (fun i ys σ H'=>∃ u v,σ=[u,v,some (.ref x),some (.int (shf R es k k)),some (.int (shf R es k s))]∧Same H1 H'∧ys=rowV i (chg m R es k s))
        (by rw [rowV_len]; exact small_le (by omega)) (by rw [rowV_len,rowV_len]) ⟨none,none,rfl,Same.refl _,rfl⟩ ?_ ?_ ?_⟩
       · rintro i ys σ H2 hi ⟨u,v,rfl,s2,rfl⟩
         refine ⟨SqL.of (s2 _ _ (s1 _ _ ha)),SqL.of (s2 _ _ (s1 _ _ hb)),?_⟩
         rw [rowV_len]
         exact Nat.le_refl _
       · rintro bk i y z ys σ H2 p hy hz ⟨u,v,rfl,s2,rfl⟩ hp
         obtain ⟨rfl,hi⟩:=rowV_some hy
         obtain ⟨rfl,_⟩:=rowV_some hz
         refine gtup2 (SqT.of upd_same) ?_
         open_k with [rIxL]
         refine ⟨⟨G.bs k hk,G.bR s i hs hi⟩,⟨G.bs s hs,G.bR k i hk hi⟩,_,_,_,upd_old (s2 _ _ ex1) hp,T.cl_Tally,T.na_Tally_many,_,tfl_many _ _,_,rfl,⟨G.m0,G.bm⟩,s2.upd' hp,?_⟩
         rw [rowV_succ]
         simp [chg,c]
       · rintro ys σ H2 D2 ⟨u,v,rfl,s2,rfl⟩ hD2
         rw [rowV_len]
         exact q D2 _ ((s1.trans s2).upd' hD2) upd_same
def sp_give (C:Addr):Sp:=fun vs H Q _=>∃ (x L e:Addr) (rs:List Addr) (n k:Nat) (m:Int) (R:Nat→Nat→Int) (es:List Nat),vs=[.ref x,.int k,.ref e]∧TallyAt C H x L rs n m R∧H e=some (.lst (nats es)) ∧
 k < n∧n≤32∧(∀ y∈es,y < n)∧es.length≤64∧GiveOk n k m R es∧∀ L' rs' H',(∀ b o,H b=some o→b ≠ x→H' b=some o)→TallyAt C H' x L' rs' n (shf R es k k) (chg m R es k)→Q .non H'
theorem ok_c (c0:NoX CX) (T:Txt K mg t):FnOk P w K mg base CX 2 t.f_c t.d_c ["self","place","ends"] (sp_give t.C_Tally):=by
 refine T.F_c.okX sc_c (fun vs H Q E h=>?_) (fun cdv A outer s H vs Q E hr h=>?_)
 · obtain ⟨x,L,e,rs,n,k,m,R,es,rfl,_⟩:=h
   rfl
 · obtain ⟨x,L,e,rs,n,k,m,R,es,rfl,W,he,hk,hn,hes,hl,G,q⟩:=h
   obtain ⟨dx,ex⟩:=W.ob
   refine ⟨_,(pss_cons (ps_set (i:=3) sc_c.nd (by rfl) (Or.inr rfl) (pe_callB (call_sum (by rfl)) (by rfl) T.n_sum (by decide +kernel:bootBuiltins "sum"=some (.builtin "sum")) (pa_cons (pe_comp (own:=(["end"]:List Str)) (fr:=(["place","self"]:List Str)) (ix:=([1,0]:List Nat)) (by rfl) ⟨by rfl,by decide +kernel,by rfl,by rfl,by rfl⟩ (pi_list (pv 2)) (fun _=>(pg_name (i:=0) (show List.Nodup (["end","place","self"]:List Str) by decide +kernel) (by rfl) (Or.inl rfl))) (fun _ hB=>pts_nil) (fun _ hB=>(pe_meth (pv 2) T.cl_Tally T.M_h (ok_h c0 T) (hr.mono (by decide)) T.b_h .nil (pass1 c0) (pa_cons (pv 1) (pa_cons (pv 0) pa_nil))))) pa_nil)))
 (pss_cons (ps_fld (pv 0) (pe_comp (own:=(["stop"]:List Str)) (fr:=(["place","ends","many","self"]:List Str)) (ix:=([1,2,3,0]:List Nat)) (by rfl) ⟨by rfl,by decide +kernel,by rfl,by rfl,by rfl⟩ (pi_range1 (by rfl) T.n_range (pa_cons (pe_callB call_len (by rfl) T.n_len (by decide +kernel:bootBuiltins "len"=some (.builtin "len")) (pa_cons (pe_fld (pv 0) (by rfl)) pa_nil)) pa_nil)) (fun _=>(pg_name (i:=0) (show List.Nodup (["stop","place","ends","many","self"]:List Str) by decide +kernel) (by rfl) (Or.inl rfl))) (fun _ hB=>pts_nil) (fun _ hB=>(pe_meth (pv 4) T.cl_Tally T.M_b (ok_b c0 T) (hr.mono (by decide)) T.b_b .nil (pass1 c0) (pa_cons (pv 0) (pa_cons (pv 1) (pa_cons (pv 2) (pa_cons (pv 3) pa_nil))))))) (by rfl))
 (pss_one (ps_fld (pv 0) (pv 3) (by rfl))))),?_⟩
   open_k with []
   refine ⟨⟨_,SqL.of he⟩,blk_list (xs:=nats es) (fun i ys σ H'=>∃ u,σ=[u,some (.int k),some (.ref x)]∧H'=H∧ys=((es.take i).map fun y=>R k k - R k y).map V.int)
    (by unfold nats; rw [List.length_map]; exact small_le (by omega)) ⟨none,rfl,rfl,rfl⟩ ?_ ?_ ?_⟩
   · rintro i ys σ H2 hi ⟨u,rfl,rfl,rfl⟩
     exact ⟨SqL.of he,by simp; omega⟩
   · rintro bk i y ys σ H2 hy ⟨u,rfl,rfl,rfl⟩
     obtain ⟨y0,e0,rfl⟩:∃ y0,es[i]?=some y0∧y=.int ((y0:Nat):Int):=by
      unfold nats at hy
      rw [List.getElem?_map] at hy
      cases h:es[i]? with
      | none=>rw [h] at hy; cases hy
      | some y0=>rw [h] at hy; exact ⟨y0,rfl,(Option.some.inj hy).symm⟩
     have hy0:=hes y0 (List.mem_of_getElem? e0)
     open_k with []
     refine ⟨_,_,ex,tfl_no _ _ (by decide +kernel) (by decide +kernel),x,L,rs,n,k,y0,m,R,rfl,W,hk,hy0,?_⟩
     rw [List.take_add_one,e0]
     simp
   · rintro ys σ H2 D ⟨u,rfl,rfl,rfl⟩ hD
     have ln:(nats es).length=es.length:=by unfold nats; rw [List.length_map]
     rw [ln,List.take_length]
     refine ⟨_,rfl,_,SqL.of upd_same,?_⟩
     have es1:(es.map fun y=>R k k - R k y).sum=shf R es k k:=rfl
     rw [es1]
     have s1:Same H2 (upd H2 D (.lst ((es.map fun y=>R k k - R k y).map V.int))):=Same.new hD
     generalize upd H2 D (.lst ((es.map fun y=>R k k - R k y).map V.int))=H1 at *
     have W1:=W.same s1
     have ex1:=s1 _ _ ex
     have lr:(rs.map V.ref).length=n:=by rw [List.length_map]; exact W.ln
     refine ⟨_,_,_,ex1,T.cl_Tally,T.na_Tally_stopped,_,tfl_stopped _ _,_,lenL (SqL.of W1.ls),by omega,by omega,blk_range (fun i ys σ H'=>∃ u rs',σ=[u,some (.int k),some (.ref e),some (.int (shf R es k k)),some (.ref x)]∧Same H1 H'∧ys=rs'.map V.ref∧rs'.length=i∧∀ (s:Nat) (a:Addr),rs'[s]?=some a→H' a=some (.lst (rowV n (chg m R es k s))))
      (by rw [Int.toNat_natCast,lr]; exact small_le (by omega)) ⟨none,[],rfl,Same.refl _,rfl,rfl,fun s a h=>by cases h⟩ ?_ ?_ ?_⟩
     · rintro i ys σ H3 hi ⟨u,rs',rfl,s2,rfl,hl2,hr2⟩
       rw [List.length_map,hl2]
       exact Nat.le_refl _
     · rintro bk i ys σ H3 hi ⟨u,rs',rfl,s2,rfl,hl2,hr2⟩
       rw [Int.toNat_natCast,lr] at hi
       open_k with [Int.zero_add]
       refine ⟨_,_,s2 _ _ ex1,tfl_no _ _ (by decide +kernel) (by decide +kernel),x,L,e,rs,n,i,k,m,R,es,rfl,W1.same s2,s2 _ _ (s1 _ _ he),hi,hk,hn,hes,hl,G,fun d H4 s4 hd=>⟨s2.trans s4,rs'++[d],by simp,by simp [hl2],fun s a h=>?_⟩⟩
       by_cases hs:s < rs'.length
       · rw [List.getElem?_append_left hs] at h
         exact s4 _ _ (hr2 s a h)
       · have h1:s=rs'.length:=by
          obtain ⟨h1,_⟩:=List.getElem?_eq_some_iff.mp h
          simp at h1
          omega
         subst h1
         have h2:d=a:=by simpa using h
         subst h2
         rw [hl2]
         exact hd
     · rintro ys σ H3 D2 ⟨u,rs',rfl,s2,rfl,hl2,hr2⟩ hD2
       rw [Int.toNat_natCast,lr] at hl2
       have hx2:=upd_old (o:=HO.lst (rs'.map V.ref)) (s2 _ _ ex1) hD2
       refine ⟨t.C_Tally,dx,_,hx2,T.cl_Tally,T.na_Tally_stopped,tfl_len _ _,t.C_Tally,dx,_,upd_same,T.cl_Tally,T.na_Tally_many,by rw [tfl_put1]; exact tfl_len _ _,?_⟩
       rw [tfl_put1,tfl_put2]
       have nDx:D2 ≠ x:=fun z=>by rw [← z,upd_same] at hx2; cases hx2
       refine q D2 rs' _ (fun b o e hb=>?_) ⟨⟨dx,upd_same⟩,by rw [upd_ne nDx,upd_ne nDx,upd_same],hl2,fun s a h=>?_⟩
       · rw [upd_ne hb,upd_ne hb]
         exact upd_old (s2 _ _ (s1 _ _ e)) hD2
       · have h3:=upd_old (o:=HO.lst (rs'.map V.ref)) (hr2 s a h) hD2
         have nx:=ne_of h3 hx2 (by intro z; cases z)
         rw [upd_ne nx,upd_ne nx]
         exact h3
def sp_others (C:Addr):Sp:=fun vs H Q _=>∃ (x l:Addr) (as:List Addr) (n g:Nat) (ps:List Pr),vs=[.ref x,.int g]∧NetAt C H x l as n ps∧∀ d,H d=none→Q (.ref d) (upd H d (.lst (nats (others n g))))
theorem ok_p (c0:NoX CX) (T:Txt K mg t):FnOk P w K mg base CX 2 t.f_p t.d_p ["net","goal"] (sp_others t.C_Net):=by
 refine T.F_p.okX sc_p (fun vs H Q E h=>?_) (fun cdv A outer s H vs Q E hr h=>?_)
 · obtain ⟨x,l,as,n,g,ps,rfl,_⟩:=h
   rfl
 · obtain ⟨x,l,as,n,g,ps,rfl,N,q⟩:=h
   obtain ⟨dx,ex⟩:=N.ob
   obtain ⟨⟨n1,n2⟩,_,_,_⟩:=netOk_parts N.ok
   refine ⟨_,(pss_one (ps_ret (pe_comp (own:=(["place"]:List Str)) (fr:=(["goal"]:List Str)) (ix:=([1]:List Nat)) (by rfl) ⟨by rfl,by decide +kernel,by rfl,by rfl,by rfl⟩ (pi_range1 (by rfl) T.n_range (pa_cons (pe_meth0 (pv 0) T.cl_Net T.M_v (ok_v c0 T) (hr.mono (by decide)) T.b_v .nil (pass1 c0)) pa_nil)) (fun _=>(pg_name (i:=0) (show List.Nodup (["place","goal"]:List Str) by decide +kernel) (by rfl) (Or.inl rfl))) (fun _ hB=>(pts_one (pt_cmpR op_ne (pv 0) (pv 1) (nomark _)))) (fun _ hB=>(pv 0))))),?_⟩
   open_k with []
   refine ⟨_,_,ex,nfl_no _ _ (by decide +kernel) (by decide +kernel),x,l,as,n,ps,rfl,N,_,rfl,by omega,by omega,blk_range (fun i ys σ H'=>∃ u,σ=[u,some (.int g)]∧H'=H∧ys=nats (others i g)) (by rw [Int.toNat_natCast]; exact small_le (by omega)) ⟨none,rfl,rfl,rfl⟩ ?_ ?_ ?_⟩
   · rintro i ys σ H2 hi ⟨u,rfl,rfl,rfl⟩
     unfold nats others
     rw [List.length_map]
     exact Nat.le_trans (List.length_filter_le _ _) (by simp)
   · rintro bk i ys σ H2 hi ⟨u,rfl,rfl,rfl⟩
     open_k with [Int.zero_add]
     refine ⟨rfl,?_⟩
     have e:others (i+1) g=others i g++if i=g then [] else [i]:=by
      unfold others
      rw [List.range_succ,List.filter_append,List.filter_cons]
      by_cases c:i=g <;> simp [c]
     rw [e,nats_append]
     by_cases c:i=g
     · subst c
       simp [nats]
     · have c':¬ ((i:Nat):Int)=((g:Nat):Int):=by omega
       simp [c,c',nats]
   · rintro ys σ H2 D ⟨u,rfl,rfl,rfl⟩ hD
     rw [Int.toNat_natCast]
     exact q D hD
def PvWT (CT:Addr) (HB:Hp) (x y d1:Addr) (n g:Nat) (ps:List Pr) (i:Nat) (σ:St) (H':Hp):Prop:=∃ (v:Option V) (L:Addr) (rs:List Addr) (m:Int) (R:Nat→Nat→Int),σ=[some (.ref x),some (.int g),some (.ref d1),some (.ref y),v]∧(∀ b o,HB b=some o→b ≠ y→H' b=some o)∧TallyAt CT H' y L rs n m R∧m=Mx.det n (Mx.Rows (enR n ps) (gvL ps ((others n g).take i))) ∧
 (0 < m→∀ s p,s < n→p < n→R s p=Mx.cof n (Mx.Rows (enR n ps) (gvL ps ((others n g).take i))) s p)
def sp_whole_tally (C CT:Addr):Sp:=fun vs H Q _=>∃ (x l:Addr) (as:List Addr) (n g:Nat) (ps:List Pr),vs=[.ref x,.int g]∧NetAt C H x l as n ps∧g < n ∧
 ∀ (y L:Addr) (rs:List Addr) (m:Int) (R:Nat→Nat→Int) (H':Hp),Same H H'→H y=none→TallyAt CT H' y L rs n m R→m=cntT n ps g→(0 < m→∀ s p,s < n→p < n→R s p=Mx.cof n (Mx.Rows (enR n ps) (gvL ps (others n g))) s p)→Q (.ref y) H'
theorem ok_w (c0:NoX CX) (T:Txt K mg t):FnOk P w K mg base CX 4 t.f_w t.d_w ["net","goal"] (sp_whole_tally t.C_Net t.C_Tally):=by
 refine T.F_w.okX sc_w (fun vs H Q E h=>?_) (fun cdv A outer s H vs Q E hr h=>?_)
 · obtain ⟨x,l,as,n,g,ps,rfl,_⟩:=h
   rfl
 · obtain ⟨x,l,as,n,g,ps,rfl,N,hg,q⟩:=h
   obtain ⟨dx,ex⟩:=N.ob
   obtain ⟨⟨n1,n2⟩,⟨l1,l2⟩,hends,_⟩:=netOk_parts N.ok
   refine ⟨_,(pss_cons (ps_set (i:=2) sc_w.nd (by rfl) (Or.inr rfl) (pe_meth0 (pv 0) T.cl_Net T.M_e1 (ok_e1 c0 T) (hr.mono (by decide)) T.b_e1 .nil (pass1 c0)))
 (pss_cons (ps_set (i:=3) sc_w.nd (by rfl) (Or.inl rfl) (pe_make T.mk_Tally (ok_f c0 T) (hr.mono (by decide)) (by rfl) T.m_Tally T.b_f .nil (pass1 c0) (pa_cons (pe_meth0 (pv 0) T.cl_Net T.M_v (ok_v c0 T) (hr.mono (by decide)) T.b_v .nil (pass1 c0)) pa_nil)))
 (pss_cons (ps_for PassesOwn.never (by rfl) (pi_list (pe_call (ok_p c0 T) (hr.mono (by decide)) (by rfl) T.m_p T.F_p.kp T.b_p .nil (pass1 c0) (pa_cons (pv 0) (pa_cons (pv 1) pa_nil)))) (pg_name (i:=4) sc_w.nd (by rfl) (Or.inl rfl))
 (pss_one (ps_if (pt_cmpR op_gt (pe_fld (pv 3) (by rfl)) pe_int (nomark _))
 (pss_one (ps_expr (pe_meth (pv 3) T.cl_Tally T.M_c (ok_c c0 T) (hr.mono (by decide)) T.b_c .nil (pass1 c0) (pa_cons (pv 4) (pa_cons (pe_comp (own:=(["road"]:List Str)) (fr:=(["roads"]:List Str)) (ix:=([2]:List Nat)) (by rfl) ⟨by rfl,by decide +kernel,by rfl,by rfl,by rfl⟩ (pi_list (pe_meth (pv 0) T.cl_Net T.M_f1 (ok_f1 c0 T) (hr.mono (by decide)) T.b_f1 .nil (pass1 c0) (pa_cons (pv 4) pa_nil))) (fun _=>(pg_name (i:=0) (show List.Nodup (["road","roads"]:List Str) by decide +kernel) (by rfl) (Or.inl rfl))) (fun _ hB=>pts_nil) (fun _ hB=>(pe_ix ix_tup (pe_ix ix_list (pv 1) (pv 0) (fun _ _=>rfl)) pe_int (fun _ _=>rfl)))) pa_nil)))))
 pss_nil)))
 (pss_one (ps_ret (pv 3)))))),?_⟩
   open_k with []
   refine ⟨_,_,ex,nfl_no _ _ (by decide +kernel) (by decide +kernel),x,l,as,n,ps,rfl,N,fun d1 fd1=>?_⟩
   have s1:Same H (upd H d1 (.lst (as.map V.ref))):=Same.new fd1
   have hd1:upd H d1 (.lst (as.map V.ref)) d1=some (.lst (as.map V.ref)):=upd_same
   generalize upd H d1 (.lst (as.map V.ref))=H1 at *
   refine ⟨_,_,s1 _ _ ex,nfl_no _ _ (by decide +kernel) (by decide +kernel),x,l,as,n,ps,rfl,N.same s1,fun y dy fy fdy ndy=>⟨y,dy,n,rfl,upd_same,by omega,fun L rs H2 k2 W=>⟨rfl,?_⟩⟩⟩
   have s2:Same H1 H2:=fun b o e=>k2 b o (by rw [upd_ne (ne_of_none e fy)]; exact upd_old e fdy) (ne_of_none e fy)
   refine ⟨x,l,as,n,g,ps,rfl,(N.same s1).same s2,fun d2 fd2=>⟨d2,rfl,⟨_,SqL.of upd_same⟩,?_⟩⟩
   have s3:Same H2 (upd H2 d2 (.lst (nats (others n g)))):=Same.new fd2
   have hd2:upd H2 d2 (.lst (nats (others n g))) d2=some (.lst (nats (others n g))):=upd_same
   generalize upd H2 d2 (.lst (nats (others n g)))=HB at *
   have N3:=((N.same s1).same s2).same s3
   have W3:=W.same s3
   obtain ⟨dT,eT⟩:=W3.ob
   have ny:∀ b o,H1 b=some o→b ≠ y:=fun b o e=>ne_of_none e fy
   have nyd:d2 ≠ y:=ne_of hd2 eT (by intro z; cases z)
   refine forb_list (xs:=nats (others n g)) (PvWT t.C_Tally HB x y d1 n g ps) ⟨none,L,rs,1,_,rfl,fun b o e _=>e,W3,?_,fun _=>?_⟩ ?_ ?_ ?_
   · have e0:gvL ps ((others n g).take 0)=fun _=>[ps.length]:=by funext i; simp [gvL]
     rw [e0,Mx.det_start (enR_out n ps)]
   · intro s p hs hp
     have e0:gvL ps ((others n g).take 0)=fun _=>[ps.length]:=by funext i; simp [gvL]
     rw [e0,Mx.cof_start (enR_out n ps) hs hp]
   · rintro i σ H4 hi ⟨v,L4,rs4,m4,R4,rfl,k4,W4,e4,c4⟩
     exact SqL.of (k4 _ _ hd2 nyd)
   · rintro i z σ H4 hz ⟨v,L4,rs4,m4,R4,rfl,k4,W4,e4,c4⟩
     obtain ⟨p,hp0,rfl⟩:∃ p,(others n g)[i]?=some p∧z=.int ((p:Nat):Int):=by
      unfold nats at hz
      rw [List.getElem?_map] at hz
      cases h:(others n g)[i]? with
      | none=>rw [h] at hz; cases hz
      | some y0=>rw [h] at hz; exact ⟨y0,rfl,(Option.some.inj hz).symm⟩
     obtain ⟨hpn,hpg⟩:=others_mem.mp (List.mem_of_getElem? hp0)
     have et:(others n g).take (i+1)=(others n g).take i++[p]:=by rw [List.take_add_one,hp0]; rfl
     have hpl:p ∉ (others n g).take i:=(gvC_open (ps:=ps) (c:=fun _=>0) hp0).1
     obtain ⟨dT4,eT4⟩:=W4.ob
     have N4:NetAt t.C_Net H4 x l as n ps:=by
      obtain ⟨dy,ey⟩:=N3.ob
      have s13:∀ b o,H1 b=some o→H4 b=some o:=fun b o e=>k4 b o (s3 _ _ (s2 _ _ e)) (ny b o e)
      exact ⟨⟨_,s13 _ _ (s1 _ _ ex)⟩,s13 _ _ (s1 _ _ N.ls),(N.ts.same s1).mono fun b o e=>s13 _ _ e,N.ok⟩
     obtain ⟨dx4,ex4⟩:=N4.ob
     have h14:H4 d1=some (.lst (as.map V.ref)):=k4 _ _ (s3 _ _ (s2 _ _ hd1)) (ny _ _ hd1)
     have hg4:∀ i',i' < n→(gvL ps ((others n g).take i) i').length≤64:=fun i' _=>gvL_len (by omega) _ _
     open_k with []
     refine ⟨_,_,_,eT4,T.cl_Tally,T.na_Tally_many,_,tfl_many _ _,_,rfl,?_⟩
     by_cases c:0 < m4
     · rw [if_pos (decide_eq_true c)]
       have hwp:within (p:Int) n=true:=by rw [within_iff]; omega
       refine ⟨_,_,eT4,tfl_no _ _ (by decide +kernel) (by decide +kernel),_,_,ex4,nfl_no _ _ (by decide +kernel) (by decide +kernel),x,l,as,n,ps,p,rfl,N4,hwp,fun d5 H5 s5 fd5 hd5=>⟨d5,rfl,⟨_,SqL.of hd5⟩,blk_list (xs:=nats (exitsOf ps p)) (fun j ys σ H'=>∃ u,σ=[u,some (.ref d1)]∧H'=H5∧ys=nats (((exitsOf ps p).take j).map (enR n ps)))
        (by unfold nats; rw [List.length_map]; exact small_le (Nat.le_trans (exits_len ps p) (by omega))) ⟨none,rfl,rfl,rfl⟩ ?_ ?_ ?_⟩⟩
       · rintro j ys σ H6 hj ⟨u,rfl,rfl,rfl⟩
         exact ⟨SqL.of hd5,by unfold nats; simp; omega⟩
       · rintro bk j z ys σ H6 hz ⟨u,rfl,rfl,rfl⟩
         obtain ⟨r,hr0,rfl⟩:∃ r,(exitsOf ps p)[j]?=some r∧z=.int ((r:Nat):Int):=by
          unfold nats at hz
          rw [List.getElem?_map] at hz
          cases h:(exitsOf ps p)[j]? with
          | none=>rw [h] at hz; cases hz
          | some y0=>rw [h] at hz; exact ⟨y0,rfl,(Option.some.inj hz).symm⟩
         obtain ⟨hrl,hr1⟩:=exits_lt (List.mem_of_getElem? hr0)
         obtain ⟨a,ha,hH⟩:=N4.ts.get' (i:=r) (q:=ps[r]) (by simp [hrl])
         open_k with [rIxL,rIxT]
         refine ⟨_,SqL.of (s5 _ _ h14),_,atI_nat (j:=r) (v:=.ref a) (by rw [List.getElem?_map,ha]; rfl),a,rfl,_,SqT.of (s5 _ _ hH),_,atI_nat (j:=1) rfl,?_⟩
         rw [List.take_add_one,hr0]
         have er:ps[r].2=((enR n ps r:Nat):Int):=by
          rw [enR_in hrl]
          have g:ps.getD r (0,0)=ps[r]:=by rw [List.getD_eq_getElem?_getD]; simp [hrl]
          rw [g]
          have:=ends_in hends (List.getElem_mem hrl)
          omega
         rw [er]
         simp [nats]
       · rintro ys σ H6 D ⟨u,rfl,rfl,rfl⟩ hD
         have ln:(nats (exitsOf ps p)).length=(exitsOf ps p).length:=by unfold nats; rw [List.length_map]
         rw [ln,List.take_length]
         have S:=give_step (gv:=gvL ps ((others n g).take i)) hends (by omega) hg4 hpn (c4 c) (by rw [← e4]; exact c) (exitsOf ps p) (fun r hr=>(exits_lt hr).1) (Nat.le_trans (exits_len ps p) (by omega))
         rw [← e4] at S
         obtain ⟨S1,S2,S3⟩:=S
         have s6:=s5.trans (Same.new (o:=HO.lst (nats ((exitsOf ps p).map (enR n ps)))) hD)
         refine ⟨y,L4,D,rs4,n,p,m4,R4,(exitsOf ps p).map (enR n ps),rfl,W4.same s6,upd_same,hpn,by omega,fun e he=>?_,by rw [List.length_map]; exact Nat.le_trans (exits_len ps p) (by omega),S1,fun L7 rs7 H7 k7 W7=>⟨_,L7,rs7,_,_,rfl,fun b o e hb=>k7 b o (s6 _ _ (k4 b o e hb)) hb,W7,?_,fun _ s' p' hs' hp'=>?_⟩⟩
         · obtain ⟨r,hr1,rfl⟩:=List.mem_map.mp he
           exact enR_lt hends (exits_lt hr1).1
         · rw [et,gvL_put]
           exact S2
         · rw [et,gvL_put]
           exact S3 s' p' hs' hp'
     · rw [if_neg (by simp [c])]
       have hx:=fun i' (x':Nat) (_:i' < n) (hm:x'∈gvL ps ((others n g).take i) i')=>gvL_ends hends _ _ _ hm
       have z4:m4=0:=by
        have:=Mx.det_nonneg hx
        rw [← e4] at this
        omega
       refine ⟨_,L4,rs4,m4,R4,rfl,k4,W4,?_,fun c'=>absurd c' c⟩
       rw [et,gvL_put,z4]
       exact (Mx.zero_stays hpn (enR_out n ps) (by simp [gvL,hpl]) hx (by rw [← e4]; exact z4) _ fun r hr=>Nat.le_of_lt (enR_lt hends (exits_lt hr).1)).symm
   · rintro σ H4 ⟨v,L4,rs4,m4,R4,rfl,k4,W4,e4,c4⟩
     have ln:(nats (others n g)).length=(others n g).length:=by unfold nats; rw [List.length_map]
     rw [ln,List.take_length] at e4 c4
     open_k with []
     exact q y L4 rs4 m4 R4 H4 (fun b o e=>k4 b o (s3 _ _ (s2 _ _ (s1 _ _ e))) (ny b o (s1 _ _ e))) (s1.free fy) W4 e4 c4
def sp_many_trees (C:Addr):Sp:=fun vs H Q _=>∃ (x l:Addr) (as:List Addr) (n g:Nat) (ps:List Pr),vs=[.ref x,.int g]∧NetAt C H x l as n ps∧g < n∧∀ H',Same H H'→Q (.int (cntT n ps g)) H'
theorem ok_g1 (c0:NoX CX) (T:Txt K mg t):FnOk P w K mg base CX 5 t.f_g1 t.d_g1 ["net","place"] (sp_many_trees t.C_Net):=by
 refine T.F_g1.okX sc_g1 (fun vs H Q E h=>?_) (fun cdv A outer s H vs Q E hr h=>?_)
 · obtain ⟨x,l,as,n,g,ps,rfl,_⟩:=h
   rfl
 · obtain ⟨x,l,as,n,g,ps,rfl,N,hg,q⟩:=h
   obtain ⟨dx,ex⟩:=N.ob
   refine ⟨_,(pss_cons (ps_expr (pe_call (ok_u c0 T) (hr.mono (by decide)) (by rfl) T.m_u T.F_u.kp T.b_u .nil (pass1 c0) (pa_cons (pv 1) (pa_cons (pe_meth0 (pv 0) T.cl_Net T.M_v (ok_v c0 T) (hr.mono (by decide)) T.b_v .nil (pass1 c0)) pa_nil))))
 (pss_one (ps_ret (pe_fld (pe_call (ok_w c0 T) (hr.mono (by decide)) (by rfl) T.m_w T.F_w.kp T.b_w .nil (pass1 c0) (pa_cons (pv 0) (pa_cons (pv 1) pa_nil))) (by rfl))))),?_⟩
   open_k with []
   refine ⟨_,_,ex,nfl_no _ _ (by decide +kernel) (by decide +kernel),x,l,as,n,ps,rfl,N,_,_,rfl,by rw [within_iff]; omega,x,l,as,n,g,ps,rfl,N,hg,fun y L rs m R H1 s1 fy W e c=>?_⟩
   obtain ⟨dT,eT⟩:=W.ob
   refine ⟨y,rfl,_,_,_,eT,T.cl_Tally,T.na_Tally_many,_,tfl_many _ _,?_⟩
   rw [e]
   exact q H1 s1
end
end Rb
namespace Rb
open PySem L2
section
variable {CX:CXT} {P:Program} {w:World} {K:PySem.W.Frag} {mg:Str→Option Value} {base:Heap} {t:Adr}
def sp_many_ahead (C CT:Addr):Sp:=fun vs H Q _=>∃ (x l y L:Addr) (as rs:List Addr) (n p:Nat) (ps:List Pr) (m:Int) (R:Nat→Nat→Int) (z:Int),vs=[.ref x,.ref y,.int p,.int z]∧NetAt C H x l as n ps∧TallyAt CT H y L rs n m R∧p < n∧∀ H',Same H H'→Q (.int (aheadR n ps R p z)) H'
theorem ok_h1 (c0:NoX CX) (T:Txt K mg t):FnOk P w K mg base CX 4 t.f_h1 t.d_h1 ["net","tally","place","road"] (sp_many_ahead t.C_Net t.C_Tally):=by
 refine T.F_h1.okX sc_h1 (fun vs H Q E h=>?_) (fun cdv A outer s H vs Q E hr h=>?_)
 · obtain ⟨x,l,y,L,as,rs,n,p,ps,m,R,z,rfl,_⟩:=h
   rfl
 · obtain ⟨x,l,y,L,as,rs,n,p,ps,m,R,z,rfl,N,W,hp,q⟩:=h
   obtain ⟨dx,ex⟩:=N.ob
   obtain ⟨dT,eT⟩:=W.ob
   obtain ⟨⟨n1,n2⟩,⟨l1,l2⟩,hends,_⟩:=netOk_parts N.ok
   refine ⟨_,(pss_cons (ps_set (i:=4) sc_h1.nd (by rfl) (Or.inr rfl) (pe_meth0 (pv 0) T.cl_Net T.M_e1 (ok_e1 c0 T) (hr.mono (by decide)) T.b_e1 .nil (pass1 c0)))
 (pss_one (ps_ret (pe_callB (call_sum (by rfl)) (by rfl) T.n_sum (by decide +kernel:bootBuiltins "sum"=some (.builtin "sum")) (pa_cons (pe_comp (own:=(["lesser"]:List Str)) (fr:=(["place","tally","roads","road"]:List Str)) (ix:=([2,1,4,3]:List Nat)) (by rfl) ⟨by rfl,by decide +kernel,by rfl,by rfl,by rfl⟩ (pi_list (pe_meth (pv 0) T.cl_Net T.M_f1 (ok_f1 c0 T) (hr.mono (by decide)) T.b_f1 .nil (pass1 c0) (pa_cons (pv 2) pa_nil))) (fun _=>(pg_name (i:=0) (show List.Nodup (["lesser","place","tally","roads","road"]:List Str) by decide +kernel) (by rfl) (Or.inl rfl))) (fun _ hB=>(pts_one (pt_cmpR op_lt (pv 0) (pv 4) (nomark _)))) (fun _ hB=>(pe_meth (pv 2) T.cl_Tally T.M_h (ok_h c0 T) (hr.mono (by decide)) T.b_h .nil (pass1 c0) (pa_cons (pv 1) (pa_cons (pe_ix ix_tup (pe_ix ix_list (pv 3) (pv 0) (fun _ _=>rfl)) pe_int (fun _ _=>rfl)) pa_nil))))) pa_nil))))),?_⟩
   open_k with []
   refine ⟨_,_,ex,nfl_no _ _ (by decide +kernel) (by decide +kernel),x,l,as,n,ps,rfl,N,fun d1 fd1=>?_⟩
   have s1:Same H (upd H d1 (.lst (as.map V.ref))):=Same.new fd1
   have hd1:upd H d1 (.lst (as.map V.ref)) d1=some (.lst (as.map V.ref)):=upd_same
   generalize upd H d1 (.lst (as.map V.ref))=H1 at *
   have hwp:within (p:Int) n=true:=by rw [within_iff]; omega
   refine ⟨_,_,s1 _ _ ex,nfl_no _ _ (by decide +kernel) (by decide +kernel),x,l,as,n,ps,p,rfl,N.same s1,hwp,fun d2 H2 s2 fd2 hd2=>⟨d2,rfl,⟨_,SqL.of hd2⟩,blk_list (xs:=nats (exitsOf ps p)) (fun i ys σ H'=>∃ u,σ=[u,some (.int p),some (.ref y),some (.ref d1),some (.int z)]∧H'=H2∧ys=((((exitsOf ps p).take i).filter fun (j:Nat)=>decide ((j:Int) < z)).map fun j=>R p p - R p (enR n ps j)).map V.int)
    (by rw [nats_len]; exact small_le (Nat.le_trans (exits_len ps p) (by omega))) ⟨none,rfl,rfl,rfl⟩ ?_ ?_ ?_⟩⟩
   · rintro i ys σ H3 hi ⟨u,rfl,rfl,rfl⟩
     refine ⟨SqL.of hd2,?_⟩
     rw [List.length_map,List.length_map]
     exact Nat.le_trans (List.length_filter_le _ _) (by simp; omega)
   · rintro bk i v ys σ H3 hv ⟨u,rfl,rfl,rfl⟩
     obtain ⟨j,hj,rfl⟩:=nats_get hv
     obtain ⟨hjl,hj1⟩:=exits_lt (List.mem_of_getElem? hj)
     obtain ⟨a,ha,hH⟩:=N.ts.get' (i:=j) (q:=ps[j]) (by simp [hjl])
     have s12:=s1.trans s2
     have et:(((exitsOf ps p).take (i+1)).filter fun (j:Nat)=>decide ((j:Int) < z))=((exitsOf ps p).take i).filter (fun (j:Nat)=>decide ((j:Int) < z))++if (j:Int) < z then [j] else []:=by
      rw [List.take_add_one,hj,List.filter_append]
      congr 1
      by_cases c:(j:Int) < z <;> simp [c]
     open_k with [rIxL,rIxT]
     by_cases c:(j:Int) < z
     · rw [if_pos (decide_eq_true c)]
       have er:ps[j].2=((enR n ps j:Nat):Int):=by
        rw [enR_in hjl]
        have g:ps.getD j (0,0)=ps[j]:=by rw [List.getD_eq_getElem?_getD]; simp [hjl]
        rw [g]
        have:=ends_in hends (List.getElem_mem hjl)
        omega
       refine ⟨_,_,s12 _ _ eT,tfl_no _ _ (by decide +kernel) (by decide +kernel),_,SqL.of (s2 _ _ hd1),_,atI_nat (j:=j) (v:=.ref a) (by rw [List.getElem?_map,ha]; rfl),a,rfl,_,SqT.of (s12 _ _ hH),_,atI_nat (j:=1) rfl,y,L,rs,n,p,enR n ps j,m,R,?_,W.same s12,hp,enR_lt hends hjl,?_⟩
       · rw [er]
       · rw [et,if_pos c]
         simp
     · rw [if_neg (by simp [c])]
       rw [et,if_neg c]
       simp
   · rintro ys σ H3 D ⟨u,rfl,rfl,rfl⟩ hD
     rw [nats_len,List.take_length]
     exact ⟨_,rfl,_,SqL.of upd_same,q _ ((s1.trans s2).upd' hD)⟩
def sp_entry_at (C CT:Addr):Sp:=fun vs H Q _=>∃ (x l y L:Addr) (as rs:List Addr) (n p j:Nat) (ps:List Pr) (m:Int) (R:Nat→Nat→Int) (num:Int),vs=[.ref x,.ref y,.int p,.int num]∧NetAt C H x l as n ps∧TallyAt CT H y L rs n m R∧p < n ∧
 ((exitsOf ps p).filter fun (j:Nat)=>decide (aheadR n ps R p (j:Int)≤num)).getLast?=some j∧∀ H',Same H H'→Q (.int j) H'
theorem ok_p1 (c0:NoX CX) (T:Txt K mg t):FnOk P w K mg base CX 5 t.f_p1 t.d_p1 ["net","tally","place","number"] (sp_entry_at t.C_Net t.C_Tally):=by
 refine T.F_p1.okX sc_p1 (fun vs H Q E h=>?_) (fun cdv A outer s H vs Q E hr h=>?_)
 · obtain ⟨x,l,y,L,as,rs,n,p,j,ps,m,R,num,rfl,_⟩:=h
   rfl
 · obtain ⟨x,l,y,L,as,rs,n,p,j,ps,m,R,num,rfl,N,W,hp,hj,q⟩:=h
   obtain ⟨dx,ex⟩:=N.ob
   obtain ⟨⟨n1,n2⟩,⟨l1,l2⟩,hends,_⟩:=netOk_parts N.ok
   refine ⟨_,(pss_cons (ps_comp (i:=4) sc_p1.nd (by rfl) (Or.inl rfl) (own:=(["road"]:List Str)) (fr:=(["number","net","tally","place"]:List Str)) (ix:=([3,0,1,2]:List Nat)) (by rfl) ⟨by rfl,by decide +kernel,by rfl,by rfl,by rfl⟩ (pi_list (pe_meth (pv 0) T.cl_Net T.M_f1 (ok_f1 c0 T) (hr.mono (by decide)) T.b_f1 .nil (pass1 c0) (pa_cons (pv 2) pa_nil))) (fun _=>(pg_name (i:=0) (show List.Nodup (["road","number","net","tally","place"]:List Str) by decide +kernel) (by rfl) (Or.inl rfl))) (fun _ hB=>(pts_one (pt_cmpR op_le (pe_call (ok_h1 c0 T) (hr.mono (by decide)) (by rfl) T.m_h1 T.F_h1.kp T.b_h1 .nil (pass1 c0) (pa_cons (pv 2) (pa_cons (pv 3) (pa_cons (pv 4) (pa_cons (pv 0) pa_nil))))) (pv 1) (nomark _)))) (fun _ hB=>(pv 0)))
 (pss_one (ps_ret (pe_ix ix_list (pv 4) (pe_un un_neg pe_int) (fun _ _=>rfl))))),?_⟩
   open_k with []
   have hwp:within (p:Int) n=true:=by rw [within_iff]; omega
   refine ⟨_,_,ex,nfl_no _ _ (by decide +kernel) (by decide +kernel),x,l,as,n,ps,p,rfl,N,hwp,fun d2 H2 s2 fd2 hd2=>⟨d2,rfl,⟨_,SqL.of hd2⟩,blk_list (xs:=nats (exitsOf ps p)) (fun i ys σ H'=>∃ u,σ=[u,some (.int num),some (.ref x),some (.ref y),some (.int p)]∧Same H2 H'∧ys=nats (((exitsOf ps p).take i).filter fun (j:Nat)=>decide (aheadR n ps R p (j:Int)≤num)))
    (by rw [nats_len]; exact small_le (Nat.le_trans (exits_len ps p) (by omega))) ⟨none,rfl,Same.refl _,rfl⟩ ?_ ?_ ?_⟩⟩
   · rintro i ys σ H3 hi ⟨u,rfl,s3,rfl⟩
     refine ⟨SqL.of (s3 _ _ hd2),?_⟩
     rw [nats_len]
     exact Nat.le_trans (List.length_filter_le _ _) (by simp; omega)
   · rintro bk i v ys σ H3 hv ⟨u,rfl,s3,rfl⟩
     obtain ⟨k,hk,rfl⟩:=nats_get hv
     have et:(((exitsOf ps p).take (i+1)).filter fun (j:Nat)=>decide (aheadR n ps R p (j:Int)≤num))=((exitsOf ps p).take i).filter (fun (j:Nat)=>decide (aheadR n ps R p (j:Int)≤num))++if aheadR n ps R p k≤num then [k] else []:=by
      rw [List.take_add_one,hk,List.filter_append]
      congr 1
      by_cases c:aheadR n ps R p k≤num <;> simp [c]
     have s23:=s2.trans s3
     open_k with []
     refine ⟨x,l,y,L,as,rs,n,p,ps,m,R,k,rfl,N.same s23,W.same s23,hp,fun H4 s4=>?_⟩
     open_k with []
     rw [et,nats_append]
     by_cases c:aheadR n ps R p k≤num
     · simp [c,nats,s3.trans s4]
     · simp [c,nats,s3.trans s4]
   · rintro ys σ H3 D ⟨u,rfl,s3,rfl⟩ hD
     rw [nats_len,List.take_length]
     open_k with [rIxL]
     exact ⟨_,SqL.of upd_same,_,atI_getLast (nats_last hj),q _ ((s2.trans s3).upd' hD)⟩
def PvTA (CT:Addr) (HB:Hp) (x y d1 dt:Addr) (n g:Nat) (ps:List Pr) (num0:Nat) (i:Nat) (σ:St) (H':Hp):Prop:=∃ (v w:Option V) (c:Nat→Nat) (num:Nat) (L:Addr) (rs:List Addr) (R:Nat→Nat→Int),σ=[some (.ref x),some (.int g),some (.int num),some (.ref y),some (.ref d1),some (.ref dt),v,w] ∧
 (∀ b o,HB b=some o→b ≠ y→b ≠ dt→H' b=some o)∧TallyAt CT H' y L rs n (Mx.det n (Mx.Rows (enR n ps) (gvC n g ps ((others n g).take i) c))) R∧H' dt=some (.lst (treeUp n ((others n g).take i) c))∧(∀ j∈(others n g).take i,c j∈exitsOf ps j) ∧
 (∀ s p,s < n→p < n→R s p=Mx.cof n (Mx.Rows (enR n ps) (gvC n g ps ((others n g).take i) c)) s p)∧num < (Mx.trs n (enR n ps) (gvC n g ps ((others n g).take i) c)).length ∧
 (Mx.trs n (enR n ps) (gvC n g ps ((others n g).take i) c))[num]?=(Mx.trs n (enR n ps) (gvL ps (others n g)))[num0]?
def sp_tree_at (C:Addr):Sp:=fun vs H Q _=>∃ (x l:Addr) (as:List Addr) (n g num:Nat) (ps:List Pr),vs=[.ref x,.int g,.int num]∧NetAt C H x l as n ps∧g < n∧(num:Int) < cntT n ps g ∧
 ∀ (d:Addr) (H':Hp) (c:List Nat),Same H H'→H d=none→(Mx.trs n (enR n ps) (gvL ps (others n g)))[num]?=some c→H' d=some (.lst (treeV n g (Mx.ofL c)))→Q (.ref d) H'
theorem ok_s1 (c0:NoX CX) (T:Txt K mg t):FnOk P w K mg base CX 6 t.f_s1 t.d_s1 ["net","place","number"] (sp_tree_at t.C_Net):=by
 refine T.F_s1.okX sc_s1 (fun vs H Q E h=>?_) (fun cdv A outer s H vs Q E hr h=>?_)
 · obtain ⟨x,l,as,n,g,num,ps,rfl,_⟩:=h
   rfl
 · obtain ⟨x,l,as,n,g,num,ps,rfl,N,hg,hnum,q⟩:=h
   obtain ⟨dx,ex⟩:=N.ob
   obtain ⟨⟨n1,n2⟩,⟨l1,l2⟩,hends,_⟩:=netOk_parts N.ok
   have hx0:∀ (i' x':Nat),i' < n→x'∈gvL ps (others n g) i'→enR n ps x'≤n:=fun i' x' _ hm=>gvL_ends hends _ _ _ hm
   have cnt:=Mx.det_trs hx0
   refine ⟨_,(pss_cons (ps_expr (pe_call (ok_u c0 T) (hr.mono (by decide)) (by rfl) T.m_u T.F_u.kp T.b_u .nil (pass1 c0) (pa_cons (pv 1) (pa_cons (pe_meth0 (pv 0) T.cl_Net T.M_v (ok_v c0 T) (hr.mono (by decide)) T.b_v .nil (pass1 c0)) pa_nil))))
 (pss_cons (ps_set (i:=3) sc_s1.nd (by rfl) (Or.inl rfl) (pe_call (ok_w c0 T) (hr.mono (by decide)) (by rfl) T.m_w T.F_w.kp T.b_w .nil (pass1 c0) (pa_cons (pv 0) (pa_cons (pv 1) pa_nil))))
 (pss_cons (ps_if (pt_not (pt_chain op_le op_lt pe_int (pv 2) (pe_fld (pv 3) (by rfl))))
 (pss_one ps_never)
 pss_nil)
 (pss_cons (ps_set (i:=4) sc_s1.nd (by rfl) (Or.inl rfl) (pe_meth0 (pv 0) T.cl_Net T.M_e1 (ok_e1 c0 T) (hr.mono (by decide)) T.b_e1 .nil (pass1 c0)))
 (pss_cons (ps_set (i:=5) sc_s1.nd (by rfl) (Or.inl rfl) (pe_op op_rep (pe_lst (pa_cons pe_non pa_nil)) (pe_meth0 (pv 0) T.cl_Net T.M_v (ok_v c0 T) (hr.mono (by decide)) T.b_v .nil (pass1 c0))))
 (pss_cons (ps_for PassesOwn.never (by rfl) (pi_list (pe_call (ok_p c0 T) (hr.mono (by decide)) (by rfl) T.m_p T.F_p.kp T.b_p .nil (pass1 c0) (pa_cons (pv 0) (pa_cons (pv 1) pa_nil)))) (pg_name (i:=6) sc_s1.nd (by rfl) (Or.inl rfl))
 (pss_cons (ps_set (i:=7) sc_s1.nd (by rfl) (Or.inl rfl) (pe_call (ok_p1 c0 T) (hr.mono (by decide)) (by rfl) T.m_p1 T.F_p1.kp T.b_p1 .nil (pass1 c0) (pa_cons (pv 0) (pa_cons (pv 3) (pa_cons (pv 6) (pa_cons (pv 2) pa_nil))))))
 (pss_cons (ps_aug (i:=2) sc_s1.nd (by rfl) (Or.inl rfl) (pe_call (ok_h1 c0 T) (hr.mono (by decide)) (by rfl) T.m_h1 T.F_h1.kp T.b_h1 .nil (pass1 c0) (pa_cons (pv 0) (pa_cons (pv 3) (pa_cons (pv 6) (pa_cons (pv 7) pa_nil))))) iop_sub)
 (pss_cons (ps_expr (pe_meth (pv 3) T.cl_Tally T.M_c (ok_c c0 T) (hr.mono (by decide)) T.b_c .nil (pass1 c0) (pa_cons (pv 6) (pa_cons (pe_lst (pa_cons (pe_ix ix_tup (pe_ix ix_list (pv 4) (pv 7) (fun _ _=>rfl)) pe_int (fun _ _=>rfl)) pa_nil)) pa_nil))))
 (pss_one (ps_asg (pv 7) (pg_sub (pv 5) (pv 6) set_list)))))))
 (pss_one (ps_ret (pv 5))))))))),?_⟩
   open_k with []
   refine ⟨_,_,ex,nfl_no _ _ (by decide +kernel) (by decide +kernel),x,l,as,n,ps,rfl,N,_,_,rfl,by rw [within_iff]; omega,x,l,as,n,g,ps,rfl,N,hg,fun y L rs m R H1 s1 fy W e cR=>?_⟩
   subst e
   obtain ⟨dT,eT⟩:=W.ob
   rw [if_pos (decide_eq_true (by omega))]
   refine ⟨y,rfl,_,_,_,eT,T.cl_Tally,T.na_Tally_many,_,tfl_many _ _,_,rfl,?_⟩
   rw [if_neg (by simp [hnum])]
   have N1:=N.same s1
   refine ⟨_,_,s1 _ _ ex,nfl_no _ _ (by decide +kernel) (by decide +kernel),x,l,as,n,ps,rfl,N1,fun d1 fd1=>?_⟩
   have s2:Same H1 (upd H1 d1 (.lst (as.map V.ref))):=Same.new fd1
   have hd1:upd H1 d1 (.lst (as.map V.ref)) d1=some (.lst (as.map V.ref)):=upd_same
   generalize upd H1 d1 (.lst (as.map V.ref))=H2 at *
   have N2:=N1.same s2
   refine ⟨by decide,fun d3 fd3=>?_⟩
   have s3:Same H2 (upd H2 d3 (.lst [V.non])):=Same.new fd3
   have hd3:upd H2 d3 (.lst [V.non]) d3=some (.lst [V.non]):=upd_same
   generalize upd H2 d3 (.lst [V.non])=H3 at *
   have N3:=N2.same s3
   refine ⟨_,_,s3 _ _ (s2 _ _ (s1 _ _ ex)),nfl_no _ _ (by decide +kernel) (by decide +kernel),x,l,as,n,ps,rfl,N3,d3,_,_,rfl,rfl,hd3,by omega,by omega,by rw [Int.toNat_natCast]; exact small_le (by show 1 * n≤1000; omega),fun dt fdt=>?_⟩
   rw [Int.toNat_natCast,treeUp_nil n (fun _=>0)]
   have s4:Same H3 (upd H3 dt (.lst (treeUp n [] fun _=>0))):=Same.new fdt
   have hdt:upd H3 dt (.lst (treeUp n [] fun _=>0)) dt=some (.lst (treeUp n [] fun _=>0)):=upd_same
   generalize upd H3 dt (.lst (treeUp n [] fun _=>0))=H4 at *
   have N4:=N3.same s4
   refine ⟨x,l,as,n,g,ps,rfl,N4,fun d2 fd2=>⟨d2,rfl,⟨_,SqL.of upd_same⟩,?_⟩⟩
   have s5:Same H4 (upd H4 d2 (.lst (nats (others n g)))):=Same.new fd2
   have hd2:upd H4 d2 (.lst (nats (others n g))) d2=some (.lst (nats (others n g))):=upd_same
   generalize upd H4 d2 (.lst (nats (others n g)))=HB at *
   have s14:Same H1 H3:=s2.trans s3
   have s1B:Same H1 HB:=(s14.trans s4).trans s5
   have ndt:∀ b o,H3 b=some o→b ≠ dt:=fun b o e=>ne_of_none e fdt
   have ny:∀ b o,H b=some o→b ≠ y:=fun b o e=>ne_of_none e fy
   have eTB:=s1B _ _ eT
   have hdtB:=s5 _ _ hdt
   have nydt:dt ≠ y:=ne_of hdtB eTB (by intro z; cases z)
   have nyd1:d1 ≠ y:=ne_of (s5 _ _ (s4 _ _ (s3 _ _ hd1))) eTB (by intro z; cases z)
   have nyd2:d2 ≠ y:=ne_of hd2 eTB (by intro z; cases z)
   have nd2:d2 ≠ dt:=fun z=>by
    rw [z] at fd2
    rw [hdt] at fd2
    cases fd2
   refine forb_list (xs:=nats (others n g)) (PvTA t.C_Tally HB x y d1 dt n g ps num) ⟨none,none,fun _=>0,num,L,rs,R,rfl,fun b o e _ _=>e,?_,?_,?_,?_,?_,?_⟩ ?_ ?_ ?_
   · rw [List.take_zero,gvC_nil]
     exact W.same s1B
   · exact hdtB
   · intro j hj
     cases hj
   · rw [List.take_zero,gvC_nil]
     exact cR (by omega)
   · rw [List.take_zero,gvC_nil]
     have h1:cntT n ps g=((Mx.trs n (enR n ps) (gvL ps (others n g))).length:Nat):=cnt
     omega
   · rw [List.take_zero,gvC_nil]
   · rintro i σ H5 hi ⟨v,w,c,nm,L5,rs5,R5,rfl,k5,W5,t5,m5,c5,b5,g5⟩
     exact SqL.of (k5 _ _ hd2 nyd2 nd2)
   · rintro i z σ H5 hz ⟨v,w,c,nm,L5,rs5,R5,rfl,k5,W5,t5,m5,c5,b5,g5⟩
     obtain ⟨p,hp0,rfl⟩:=nats_get hz
     obtain ⟨hpn,hpg⟩:=others_mem.mp (List.mem_of_getElem? hp0)
     have et:(others n g).take (i+1)=(others n g).take i++[p]:=by rw [List.take_add_one,hp0]; rfl
     obtain ⟨hpl,hopen⟩:=gvC_open (ps:=ps) (c:=c) hp0
     have hset:=gvC_set (ps:=ps) (c:=c) hp0
     have hsort:(gvC n g ps ((others n g).take i) c p).Pairwise (· < ·):=by rw [hopen]; exact exits_sorted _ _
     have hxC:∀ (i' x':Nat),i' < n→x'∈gvC n g ps ((others n g).take i) c i'→enR n ps x'≤n:=fun i' x' _ hm=>gvC_ends hends (fun j hj=>(exits_lt (m5 j hj)).1) _ _ hm
     have k05:∀ b o,H b=some o→H5 b=some o:=fun b o e=>k5 b o (s1B _ _ (s1 _ _ e)) (ny b o e) (ndt b o (s14 _ _ (s1 _ _ e)))
     have N5:NetAt t.C_Net H5 x l as n ps:=⟨⟨_,k05 _ _ ex⟩,k05 _ _ N.ls,N.ts.mono fun b o e=>k05 _ _ e,N.ok⟩
     have h15:H5 d1=some (.lst (as.map V.ref)):=k5 _ _ (s5 _ _ (s4 _ _ (s3 _ _ hd1))) nyd1 (ndt _ _ (s3 _ _ hd1))
     obtain ⟨r,nm',f1,f2,f3,f4⟩:=Mx.step_pick (en:=enR n ps) hpn hset hsort b5
     rw [hopen] at f1 f2
     have hrl:=(exits_lt f2).1
     have hA:=ahead_eq hends hpn hopen hxC c5
     have f1':((exitsOf ps p).filter fun (j:Nat)=>decide (aheadR n ps R5 p (j:Int)≤(nm:Int))).getLast?=some r:=by
      rw [← f1]
      congr 1
      refine List.filter_congr fun j _=>?_
      rw [hA]
      by_cases cc:Mx.aheadT n (enR n ps) (gvC n g ps ((others n g).take i) c) p j≤nm
      · rw [decide_eq_true cc,decide_eq_true (by omega)]
      · rw [decide_eq_false cc,decide_eq_false (by omega)]
     have hpos:0 < Mx.det n (Mx.Rows (enR n ps) (gvC n g ps ((others n g).take i) c)):=by rw [Mx.det_trs hxC]; omega
     open_k with []
     refine ⟨x,l,y,L5,as,rs5,n,p,r,ps,_,R5,nm,rfl,N5,W5,hpn,f1',fun H6 s6=>?_⟩
     open_k with [tAug]
     refine ⟨x,l,y,L5,as,rs5,n,p,ps,_,R5,r,rfl,N5.same s6,W5.same s6,hpn,fun H7 s7=>?_⟩
     have s57:=s6.trans s7
     have W7:=W5.same s57
     obtain ⟨dT7,eT7⟩:=W7.ob
     obtain ⟨a,ha,hH⟩:=N.ts.get' (i:=r) (q:=ps[r]) (by simp [hrl])
     have er:ps[r].2=((enR n ps r:Nat):Int):=by
      rw [enR_in hrl]
      have gg:ps.getD r (0,0)=ps[r]:=by rw [List.getD_eq_getElem?_getD]; simp [hrl]
      rw [gg]
      have:=ends_in hends (List.getElem_mem hrl)
      omega
     have S:=give_step (gv:=gvC n g ps ((others n g).take i) c) hends (by omega) (fun i' _=>gvC_len (by omega) _ _ _) hpn c5 hpos [r] (fun r' hr'=>(List.mem_singleton.mp hr') ▸ hrl) (show 1≤64 by decide)
     obtain ⟨S1,S2,S3⟩:=S
     rw [gvC_put hpl] at S2 S3
     open_k with [rIxL,rIxT]
     refine ⟨_,_,eT7,tfl_no _ _ (by decide +kernel) (by decide +kernel),_,SqL.of (s57 _ _ h15),_,atI_nat (j:=r) (v:=.ref a) (by rw [List.getElem?_map,ha]; rfl),a,rfl,_,SqT.of (s57 _ _ (k05 _ _ hH)),_,atI_nat (j:=1) rfl,by decide,fun D hD=>?_⟩
     rw [er]
     have s8:=s57.trans (Same.new (o:=HO.lst [.int ((enR n ps r:Nat):Int)]) hD)
     refine ⟨y,L5,D,rs5,n,p,_,R5,[enR n ps r],rfl,W5.same s8,upd_same,hpn,by omega,fun e he=>?_,(show 1≤64 by decide),S1,fun L9 rs9 H9 k9 W9=>?_⟩
     · have:e=enR n ps r:=by simpa using he
       rw [this]
       exact enR_lt hends hrl
     open_k with [gSub]
     have t9:H9 dt=some (.lst (treeUp n ((others n g).take i) c)):=k9 _ _ (s8 _ _ t5) nydt
     have ixp:ixN (treeUp n ((others n g).take i) c).length ((p:Nat):Int)=some p:=by
      unfold ixN
      have:(treeUp n ((others n g).take i) c).length=n:=by simp [treeUp]
      rw [this,if_pos (by omega),if_pos (by omega)]
      simp
     refine ⟨dt,_,_,p,rfl,rfl,t9,ixp,?_⟩
     rw [treeUp_put hpn hpl]
     have enum:(nm:Int) - aheadR n ps R5 p r=((nm':Nat):Int):=by rw [hA]; omega
     rw [enum]
     have ndy:∀ b,b ≠ dt→upd H9 dt (.lst (treeUp n ((others n g).take i++[p]) (Mx.put c p r))) b=H9 b:=fun b hb=>upd_ne hb
     refine ⟨_,_,Mx.put c p r,nm',L9,rs9,chg (Mx.det n (Mx.Rows (enR n ps) (gvC n g ps ((others n g).take i) c))) R5 [enR n ps r] p,rfl,fun b o e hb hb2=>?_,?_,?_,?_,?_,?_,?_⟩
     · rw [upd_ne hb2]
       exact k9 b o (s8 _ _ (k5 b o e hb hb2)) hb
     · rw [et]
       have W9':TallyAt t.C_Tally H9 y L9 rs9 n (Mx.det n (Mx.Rows (enR n ps) (gvC n g ps ((others n g).take i++[p]) (Mx.put c p r)))) (chg (Mx.det n (Mx.Rows (enR n ps) (gvC n g ps ((others n g).take i) c))) R5 [enR n ps r] p):=by rw [← S2]; exact W9
       obtain ⟨dd,ee⟩:=W9'.ob
       refine ⟨⟨dd,by rw [upd_ne (fun z=>nydt z.symm)]; exact ee⟩,?_,W9'.ln,fun s' a' h'=>?_⟩
       · rw [upd_ne (ne_of W9'.ls t9 (by intro z; exact treeUp_ref (by omega) (HO.lst.inj z)))]
         exact W9'.ls
       · rw [upd_ne (ne_of (W9'.rw s' a' h') t9 (by intro z; exact treeUp_row hg (fun zz=>(others_mem.mp (List.mem_of_mem_take zz)).2 rfl) (HO.lst.inj z)))]
         exact W9'.rw s' a' h'
     · rw [et,upd_same]
     · rw [et]
       intro j hj
       rcases List.mem_append.mp hj with h | h
       · have hne:j ≠ p:=fun z=>hpl (z ▸ h)
         simp only [Mx.put,if_neg hne]
         exact m5 j h
       · have:j=p:=by simpa using h
         subst this
         simp only [Mx.put,if_true]
         exact f2
     · rw [et]
       exact S3
     · rw [et,← gvC_put hpl]
       exact f4
     · rw [et,← gvC_put hpl,← g5,f3]
       exact (Mx.step_at (en:=enR n ps) hpn hset hsort (by rw [hopen]; exact f2) f4).symm
   · rintro σ H5 ⟨v,w,c,nm,L5,rs5,R5,rfl,k5,W5,t5,m5,c5,b5,g5⟩
     rw [nats_len,List.take_length] at t5 m5 b5 g5
     obtain ⟨e0,e1,e2⟩:=gvC_end hends (fun j hj=>(exits_lt (m5 j hj)).1) b5
     rw [e1] at g5
     open_k with []
     refine q dt H5 _ (fun b o e=>k5 b o (s1B _ _ (s1 _ _ e)) (ny b o e) (ndt b o (s14 _ _ (s1 _ _ e)))) ((s1.trans s14).free fdt) g5.symm ?_
     rw [t5,treeUp_all]
     congr 2
     exact treeV_congr fun i hi hne=>by simp [Mx.ofL,List.getD_eq_getElem?_getD,hi,hne]
end
end Rb
namespace Rb
open PySem L2
section
variable {CX:CXT} {P:Program} {w:World} {K:PySem.W.Frag} {mg:Str→Option Value} {base:Heap} {t:Adr}
theorem rep_bl (i:Nat):List.map V.bl (List.replicate i true)++[V.bl true]=V.bl true :: List.map V.bl (List.replicate i true):=by
 induction i with
 | zero=>rfl
 | succ i ih =>
  show V.bl true :: (List.map V.bl (List.replicate i true)++[V.bl true])=_
  rw [ih]
  rfl
def sp_comes (K:PySem.W.Frag):Sp:=fun vs H Q _=>∃ (d e:Addr) (as:List Addr) (n g i:Nat) (ps:List Pr) (c:Nat→Nat),vs=[.ref d,.ref e,.int i]∧SqL K H d (as.map V.ref)∧TupsAt H as ps∧SqL K H e (treeV n g c)∧endsOk n ps=true∧n≤32∧g < n∧i < n∧(∀ j,j < n→j ≠ g→c j < ps.length)∧Mx.leads n g (enR n ps) c∧Q (.bl true) H
theorem ok_m (c0:NoX CX) (T:Txt K mg t):FnOk P w K mg base CX 1 t.f_m t.d_m ["roads","tree","place"] (sp_comes K):=by
 refine T.F_m.okX sc_m (fun vs H Q E h=>?_) (fun cdv A outer s H vs Q E hr h=>?_)
 · obtain ⟨d,e,as,n,g,i,ps,c,rfl,_⟩:=h
   rfl
 · obtain ⟨d,e,as,n,g,i,ps,c,rfl,hd,ht,he,hends,hn,hg,hi,hc,ld,q⟩:=h
   have hF:∀ j,j < n→(if j=g then g else enR n ps (c j)) < n:=fun j hj=>by
    split
    · exact hg
    · rename_i hne
      exact enR_lt hends (hc j hj hne)
   obtain ⟨k0,hk0⟩:=ld i hi
   obtain ⟨k,hk,ek⟩:=Mx.iter_short hF hi k0 hk0
   refine ⟨_,(pss_cons (ps_for PassesOwn.never (by rfl) (pi_range1 (by rfl) T.n_range (pa_cons (pe_callB call_len (by rfl) T.n_len (by decide +kernel:bootBuiltins "len"=some (.builtin "len")) (pa_cons (pv 1) pa_nil)) pa_nil)) (pg_name (i:=3) sc_m.nd (by rfl) (Or.inl rfl))
 (pss_cons (ps_if (pt_cmpR op_isN (pe_ix ix_list (pv 1) (pv 2) (fun _ _=>rfl)) pe_non (nomark _))
 (pss_one (ps_ret pe_bl))
 pss_nil)
 (pss_one (ps_set (i:=2) sc_m.nd (by rfl) (Or.inl rfl) (pe_ix ix_tup (pe_ix ix_list (pv 0) (pe_ix ix_list (pv 1) (pv 2) (fun _ _=>rfl)) (fun _ _=>rfl)) pe_int (fun _ _=>rfl))))))
 (pss_one (ps_ret pe_bl))),?_⟩
   open_k with []
   refine ⟨_,lenL he,by rw [treeV_len]; omega,by rw [treeV_len]; omega,forb_range (fun j σ H'=>∃ v,σ=[some (.ref d),some (.ref e),some (.int ((Mx.iter (fun j=>if j=g then g else enR n ps (c j)) j i:Nat):Int)),v]∧H'=H∧∀ j',j' < j→Mx.iter (fun j=>if j=g then g else enR n ps (c j)) j' i ≠ g) ⟨none,rfl,rfl,fun j' h=>absurd h (by omega)⟩ ?_ ?_⟩
   · rintro j σ H2 hj ⟨v,rfl,rfl,hno⟩
     have hat:=Mx.iter_lt hF j i hi
     have hsucc:=Mx.iter_succ (fun j=>if j=g then g else enR n ps (c j)) j i
     generalize hzz:Mx.iter (fun j=>if j=g then g else enR n ps (c j)) j i=z at *
     have itz:atI (treeV n g c) ((z:Nat):Int)=some (if z=g then V.non else V.int (c z:Nat)):=atI_nat (by simp [treeV,hat])
     open_k with [rIxL,rIxT]
     refine ⟨_,he,_,itz,?_⟩
     by_cases e1:z=g
     · rw [if_pos e1,if_pos (by simp)]
       exact q
     · rw [if_neg e1,if_neg (by simp)]
       have hl:=hc z hat e1
       obtain ⟨a,ha,hH⟩:=ht.get' (i:=c z) (q:=ps[c z]) (by simp [hl])
       have er:ps[c z].2=((enR n ps (c z):Nat):Int):=by
        rw [enR_in hl]
        have gg:ps.getD (c z) (0,0)=ps[c z]:=by rw [List.getD_eq_getElem?_getD]; simp [hl]
        rw [gg]
        have:=ends_in hends (List.getElem_mem hl)
        omega
       refine ⟨_,he,_,itz,_,((c z:Nat):Int),by rw [if_neg e1],hd,_,atI_nat (j:=c z) (v:=.ref a) (by rw [List.getElem?_map,ha]; rfl),a,rfl,_,SqT.of hH,_,atI_nat (j:=1) rfl,?_,fun j' hj'=>?_⟩
       · rw [er,hsucc,if_neg e1]
       · by_cases e2:j'=j
         · subst e2
           rw [hzz]
           exact e1
         · exact hno j' (by omega)
   · rintro σ H2 ⟨v,rfl,rfl,hno⟩
     rw [Int.toNat_natCast,treeV_len] at hno
     exact absurd ek (hno k hk)
def sp_is_tree (K:PySem.W.Frag) (C:Addr):Sp:=fun vs H Q _=>∃ (x l e:Addr) (as:List Addr) (n g:Nat) (ps:List Pr) (c:Nat→Nat),vs=[.ref x,.int g,.ref e]∧NetAt C H x l as n ps∧SqL K H e (treeV n g c)∧g < n∧(∀ j,j < n→j ≠ g→c j∈exitsOf ps j)∧Mx.leads n g (enR n ps) c∧∀ H',Same H H'→Q (.bl true) H'
theorem ok_t1 (c0:NoX CX) (T:Txt K mg t):FnOk P w K mg base CX 4 t.f_t1 t.d_t1 ["net","goal","tree"] (sp_is_tree K t.C_Net):=by
 refine T.F_t1.okX sc_t1 (fun vs H Q E h=>?_) (fun cdv A outer s H vs Q E hr h=>?_)
 · obtain ⟨x,l,e,as,n,g,ps,c,rfl,_⟩:=h
   rfl
 · obtain ⟨x,l,e,as,n,g,ps,c,rfl,N,he,hg,hc,ld,q⟩:=h
   obtain ⟨dx,ex⟩:=N.ob
   obtain ⟨⟨n1,n2⟩,⟨l1,l2⟩,hends,_⟩:=netOk_parts N.ok
   have nn1:("places":Str) ≠ "place_count":=by decide +kernel
   refine ⟨_,(pss_cons (ps_if (PW.pt (pw_or (pt_cmpR op_ne (pe_callB call_len (by rfl) T.n_len (by decide +kernel:bootBuiltins "len"=some (.builtin "len")) (pa_cons (pv 2) pa_nil)) (pe_meth0 (pv 0) T.cl_Net T.M_v (ok_v c0 T) (hr.mono (by decide)) T.b_v .nil (pass1 c0)) (nomark _)) (pw_or1 (pt_cmpR op_notN (pe_ix ix_list (pv 2) (pv 1) (fun _ _=>rfl)) pe_non (nomark _)))))
 (pss_one (ps_ret pe_bl))
 pss_nil)
 (pss_cons (ps_if (pt_not (pt_val (pe_callB (call_all (by rfl)) (by rfl) T.n_all (by decide +kernel:bootBuiltins "all"=some (.builtin "all")) (pa_cons (pe_comp (own:=(["place"]:List Str)) (fr:=(["tree","net"]:List Str)) (ix:=([2,0]:List Nat)) (by rfl) ⟨by rfl,by decide +kernel,by rfl,by rfl,by rfl⟩ (pi_list (pe_call (ok_p c0 T) (hr.mono (by decide)) (by rfl) T.m_p T.F_p.kp T.b_p .nil (pass1 c0) (pa_cons (pv 0) (pa_cons (pv 1) pa_nil)))) (fun _=>(pg_name (i:=0) (show List.Nodup (["place","tree","net"]:List Str) by decide +kernel) (by rfl) (Or.inl rfl))) (fun _ hB=>pts_nil) (fun _ hB=>(pe_cmpR op_in_seq (pe_ix ix_list (pv 1) (pv 0) (fun _ _=>rfl)) (pe_meth (pv 2) T.cl_Net T.M_f1 (ok_f1 c0 T) (hr.mono (by decide)) T.b_f1 .nil (pass1 c0) (pa_cons (pv 0) pa_nil)) (by with_unfolding_all rfl)))) pa_nil))))
 (pss_one (ps_ret pe_bl))
 pss_nil)
 (pss_cons (ps_set (i:=3) sc_t1.nd (by rfl) (Or.inr rfl) (pe_meth0 (pv 0) T.cl_Net T.M_e1 (ok_e1 c0 T) (hr.mono (by decide)) T.b_e1 .nil (pass1 c0)))
 (pss_one (ps_ret (pe_callB (call_all (by rfl)) (by rfl) T.n_all (by decide +kernel:bootBuiltins "all"=some (.builtin "all")) (pa_cons (pe_comp (own:=(["place"]:List Str)) (fr:=(["roads","tree"]:List Str)) (ix:=([3,2]:List Nat)) (by rfl) ⟨by rfl,by decide +kernel,by rfl,by rfl,by rfl⟩ (pi_range1 (by rfl) T.n_range (pa_cons (pe_meth0 (pv 0) T.cl_Net T.M_v (ok_v c0 T) (hr.mono (by decide)) T.b_v .nil (pass1 c0)) pa_nil)) (fun _=>(pg_name (i:=0) (show List.Nodup (["place","roads","tree"]:List Str) by decide +kernel) (by rfl) (Or.inl rfl))) (fun _ hB=>pts_nil) (fun _ hB=>(pe_call (ok_m c0 T) (hr.mono (by decide)) (by rfl) T.m_m T.F_m.kp T.b_m .nil (pass1 c0) (pa_cons (pv 1) (pa_cons (pv 2) (pa_cons (pv 0) pa_nil)))))) pa_nil))))))),?_⟩
   open_k with [rIxL]
   refine ⟨_,lenL he,_,_,ex,nfl_no _ _ (by decide +kernel) (by decide +kernel),x,l,as,n,ps,rfl,N,rfl,?_⟩
   rw [treeV_len,if_neg (by simp)]
   refine ⟨_,he,_,atI_nat (j:=g) (v:=V.non) (by simp [treeV,hg]),?_⟩
   rw [if_neg (by simp)]
   refine ⟨x,l,as,n,g,ps,rfl,N,fun d1 fd1=>⟨d1,rfl,⟨_,SqL.of upd_same⟩,?_⟩⟩
   have s1:Same H (upd H d1 (.lst (nats (others n g)))):=Same.new fd1
   have hd1:upd H d1 (.lst (nats (others n g))) d1=some (.lst (nats (others n g))):=upd_same
   generalize upd H d1 (.lst (nats (others n g)))=H1 at *
   refine blk_list (xs:=nats (others n g)) (fun i ys σ H'=>∃ u,σ=[u,some (.ref e),some (.ref x)]∧Same H1 H'∧ys=(List.replicate i true).map V.bl) (by rw [nats_len]; exact small_le (Nat.le_trans (List.length_filter_le _ _) (by simp; omega))) ⟨none,rfl,Same.refl _,rfl⟩ ?_ ?_ ?_
   · rintro i ys σ H2 hi ⟨u,rfl,s2,rfl⟩
     exact ⟨SqL.of (s2 _ _ hd1),by simp⟩
   · rintro bk i v ys σ H2 hv ⟨u,rfl,s2,rfl⟩
     obtain ⟨p,hp0,rfl⟩:=nats_get hv
     obtain ⟨hpn,hpg⟩:=others_mem.mp (List.mem_of_getElem? hp0)
     have s12:=s1.trans s2
     have itp:atI (treeV n g c) ((p:Nat):Int)=some (V.int (c p:Nat)):=atI_nat (by simp [treeV,hpn,hpg])
     open_k with [rIxL]
     refine ⟨_,s12.seq he,_,itp,_,_,s12 _ _ ex,nfl_no _ _ (by decide +kernel) (by decide +kernel),x,l,as,n,ps,p,rfl,N.same s12,by rw [within_iff]; omega,fun d2 H3 s3 fd2 hd2=>?_⟩
     open_k with [rIn]
     refine ⟨_,Or.inl (SqL.of hd2),rfl,by simp [nats,flatV],s2.trans s3,?_⟩
     have hin:inV (V.int (c p:Nat)) (nats (exitsOf ps p))=true:=by
      unfold inV nats
      rw [List.any_map,List.any_eq_true]
      exact ⟨c p,hc p hpn hpg,by simp [eqV]⟩
     rw [hin]
     exact rep_bl i
   · rintro ys σ H2 D ⟨u,rfl,s2,rfl⟩ hD
     refine ⟨_,rfl,_,SqL.of upd_same,?_⟩
     have ea:(List.replicate (nats (others n g)).length true).all id=true:=by simp
     rw [ea]
     rw [if_neg (by simp)]
     have s3:Same H (upd H2 D (.lst ((List.replicate (nats (others n g)).length true).map V.bl))):=(s1.trans s2).upd' hD
     generalize upd H2 D (.lst ((List.replicate (nats (others n g)).length true).map V.bl))=H3 at *
     refine ⟨_,_,s3 _ _ ex,nfl_no _ _ (by decide +kernel) (by decide +kernel),x,l,as,n,ps,rfl,N.same s3,fun d4 fd4=>?_⟩
     have s4:=s3.trans (Same.new (o:=HO.lst (as.map V.ref)) fd4)
     have hd4:upd H3 d4 (.lst (as.map V.ref)) d4=some (.lst (as.map V.ref)):=upd_same
     generalize upd H3 d4 (.lst (as.map V.ref))=H4 at *
     refine ⟨_,_,s4 _ _ ex,nfl_no _ _ (by decide +kernel) (by decide +kernel),x,l,as,n,ps,rfl,N.same s4,_,rfl,by omega,by omega,blk_range (fun i ys σ H'=>∃ u,σ=[u,some (.ref d4),some (.ref e)]∧H'=H4∧ys=(List.replicate i true).map V.bl) (by rw [Int.toNat_natCast]; exact small_le (by omega)) ⟨none,rfl,rfl,rfl⟩ ?_ ?_ ?_⟩
     · rintro i ys σ H5 hi ⟨u,rfl,rfl,rfl⟩
       simp
     · rintro bk i ys σ H5 hi ⟨u,rfl,rfl,rfl⟩
       rw [Int.toNat_natCast] at hi
       open_k with [Int.zero_add]
       refine ⟨d4,e,as,n,g,i,ps,c,rfl,SqL.of hd4,N.ts.same s4,s4.seq he,hends,by omega,hg,hi,fun j hj hne=>(exits_lt (hc j hj hne)).1,ld,?_⟩
       exact ⟨rfl,rep_bl i⟩
     · rintro ys σ H5 D2 ⟨u,rfl,rfl,rfl⟩ hD2
       refine ⟨_,rfl,_,SqL.of upd_same,?_⟩
       have eb:(List.replicate ((n:Nat):Int).toNat true).all id=true:=by simp
       rw [eb]
       exact q _ (s4.upd' hD2)
def PvTN (CT:Addr) (HB:Hp) (x y d1 e:Addr) (n g:Nat) (ps:List Pr) (c:Nat→Nat) (i:Nat) (σ:St) (H':Hp):Prop:=∃ (v:Option V) (num:Nat) (L:Addr) (rs:List Addr) (R:Nat→Nat→Int),σ=[some (.ref x),some (.int g),some (.ref e),some (.ref d1),some (.ref y),some (.int num),v] ∧
 (∀ b o,HB b=some o→b ≠ y→H' b=some o)∧TallyAt CT H' y L rs n (Mx.det n (Mx.Rows (enR n ps) (gvC n g ps ((others n g).take i) c))) R ∧
 (∀ s p,s < n→p < n→R s p=Mx.cof n (Mx.Rows (enR n ps) (gvC n g ps ((others n g).take i) c)) s p)∧∀ k,k < (Mx.trs n (enR n ps) (gvC n g ps ((others n g).take i) c)).length →
 (Mx.trs n (enR n ps) (gvL ps (others n g)))[num+k]?=(Mx.trs n (enR n ps) (gvC n g ps ((others n g).take i) c))[k]?
def sp_tree_number (C:Addr):Sp:=fun vs H Q _=>∃ (x l e:Addr) (as:List Addr) (n g:Nat) (ps:List Pr) (c:Nat→Nat),vs=[.ref x,.int g,.ref e]∧NetAt C H x l as n ps∧H e=some (.lst (treeV n g c))∧g < n∧(∀ j,j < n→j ≠ g→c j∈exitsOf ps j)∧Mx.leads n g (enR n ps) c ∧
 ∀ (H':Hp) (num:Nat),Same H H'→(Mx.trs n (enR n ps) (gvL ps (others n g)))[num]?=some (listT n g ps.length c)→Q (.int num) H'
theorem ok_x (c0:NoX CX) (T:Txt K mg t):FnOk P w K mg base CX 6 t.f_x t.d_x ["net","place","tree"] (sp_tree_number t.C_Net):=by
 refine T.F_x.okX sc_x (fun vs H Q E h=>?_) (fun cdv A outer s H vs Q E hr h=>?_)
 · obtain ⟨x,l,e,as,n,g,ps,c,rfl,_⟩:=h
   rfl
 · obtain ⟨x,l,e,as,n,g,ps,c,rfl,N,he,hg,hc,ld,q⟩:=h
   obtain ⟨dx,ex⟩:=N.ob
   obtain ⟨⟨n1,n2⟩,⟨l1,l2⟩,hends,_⟩:=netOk_parts N.ok
   have hcl:∀ j,j < n→j ≠ g→c j < ps.length:=fun j hj hne=>(exits_lt (hc j hj hne)).1
   have ho:=(outs_of hends hg hcl).mpr ld
   have hmem:∀ i,listT n g ps.length c∈Mx.trs n (enR n ps) (gvC n g ps ((others n g).take i) c):=fun i=>mem_trs hc (fun z=>(others_mem.mp (List.mem_of_mem_take z)).2 rfl) ho
   refine ⟨_,(pss_cons (ps_expr (pe_call (ok_u c0 T) (hr.mono (by decide)) (by rfl) T.m_u T.F_u.kp T.b_u .nil (pass1 c0) (pa_cons (pv 1) (pa_cons (pe_meth0 (pv 0) T.cl_Net T.M_v (ok_v c0 T) (hr.mono (by decide)) T.b_v .nil (pass1 c0)) pa_nil))))
 (pss_cons (ps_if (pt_not (pt_val (pe_call (ok_t1 c0 T) (hr.mono (by decide)) (by rfl) T.m_t1 T.F_t1.kp T.b_t1 .nil (pass1 c0) (pa_cons (pv 0) (pa_cons (pv 1) (pa_cons (pv 2) pa_nil))))))
 (pss_one ps_never)
 pss_nil)
 (pss_cons (ps_set (i:=3) sc_x.nd (by rfl) (Or.inl rfl) (pe_meth0 (pv 0) T.cl_Net T.M_e1 (ok_e1 c0 T) (hr.mono (by decide)) T.b_e1 .nil (pass1 c0)))
 (pss_cons (ps_set (i:=4) sc_x.nd (by rfl) (Or.inl rfl) (pe_call (ok_w c0 T) (hr.mono (by decide)) (by rfl) T.m_w T.F_w.kp T.b_w .nil (pass1 c0) (pa_cons (pv 0) (pa_cons (pv 1) pa_nil))))
 (pss_cons (ps_set (i:=5) sc_x.nd (by rfl) (Or.inl rfl) pe_int)
 (pss_cons (ps_for PassesOwn.never (by rfl) (pi_list (pe_call (ok_p c0 T) (hr.mono (by decide)) (by rfl) T.m_p T.F_p.kp T.b_p .nil (pass1 c0) (pa_cons (pv 0) (pa_cons (pv 1) pa_nil)))) (pg_name (i:=6) sc_x.nd (by rfl) (Or.inl rfl))
 (pss_cons (ps_aug (i:=5) sc_x.nd (by rfl) (Or.inl rfl) (pe_call (ok_h1 c0 T) (hr.mono (by decide)) (by rfl) T.m_h1 T.F_h1.kp T.b_h1 .nil (pass1 c0) (pa_cons (pv 0) (pa_cons (pv 4) (pa_cons (pv 6) (pa_cons (pe_ix ix_list (pv 2) (pv 6) (fun _ _=>rfl)) pa_nil))))) iop_add)
 (pss_one (ps_expr (pe_meth (pv 4) T.cl_Tally T.M_c (ok_c c0 T) (hr.mono (by decide)) T.b_c .nil (pass1 c0) (pa_cons (pv 6) (pa_cons (pe_lst (pa_cons (pe_ix ix_tup (pe_ix ix_list (pv 3) (pe_ix ix_list (pv 2) (pv 6) (fun _ _=>rfl)) (fun _ _=>rfl)) pe_int (fun _ _=>rfl)) pa_nil)) pa_nil)))))))
 (pss_one (ps_ret (pv 5))))))))),?_⟩
   open_k with []
   refine ⟨_,_,ex,nfl_no _ _ (by decide +kernel) (by decide +kernel),x,l,as,n,ps,rfl,N,_,_,rfl,by rw [within_iff]; omega,x,l,e,as,n,g,ps,c,rfl,N,SqL.of he,hg,hc,ld,fun H1 s1=>⟨_,rfl,?_⟩⟩
   rw [if_neg (by simp)]
   have N1:=N.same s1
   refine ⟨_,_,s1 _ _ ex,nfl_no _ _ (by decide +kernel) (by decide +kernel),x,l,as,n,ps,rfl,N1,fun d1 fd1=>?_⟩
   have s2:Same H (upd H1 d1 (.lst (as.map V.ref))):=s1.upd' fd1
   have hd1:upd H1 d1 (.lst (as.map V.ref)) d1=some (.lst (as.map V.ref)):=upd_same
   generalize upd H1 d1 (.lst (as.map V.ref))=H2 at *
   refine ⟨x,l,as,n,g,ps,rfl,N.same s2,hg,fun y L rs m R H3 s3 fy W em cR=>?_⟩
   subst em
   refine ⟨x,l,as,n,g,ps,rfl,(N.same s2).same s3,fun d2 fd2=>⟨d2,rfl,⟨_,SqL.of upd_same⟩,?_⟩⟩
   have s4:Same H3 (upd H3 d2 (.lst (nats (others n g)))):=Same.new fd2
   have hd2:upd H3 d2 (.lst (nats (others n g))) d2=some (.lst (nats (others n g))):=upd_same
   generalize upd H3 d2 (.lst (nats (others n g)))=HB at *
   obtain ⟨dT,eT⟩:=W.ob
   have s2B:Same H2 HB:=s3.trans s4
   have ny:∀ b o,H2 b=some o→b ≠ y:=fun b o e=>ne_of_none e fy
   have nyd2:d2 ≠ y:=ne_of hd2 (s4 _ _ eT) (by intro z; cases z)
   have hx0:∀ (i' x':Nat),i' < n→x'∈gvL ps (others n g) i'→enR n ps x'≤n:=fun i' x' _ hm=>gvL_ends hends _ _ _ hm
   have pos:∀ i,0 < (Mx.trs n (enR n ps) (gvC n g ps ((others n g).take i) c)).length:=fun i=>List.length_pos_of_mem (hmem i)
   have hxC:∀ (i i' x':Nat),i' < n→x'∈gvC n g ps ((others n g).take i) c i'→enR n ps x'≤n:=fun i i' x' _ hm=>gvC_ends hends (fun j hj=>hcl j (others_mem.mp (List.mem_of_mem_take hj)).1 (others_mem.mp (List.mem_of_mem_take hj)).2) _ _ hm
   refine forb_list (xs:=nats (others n g)) (PvTN t.C_Tally HB x y d1 e n g ps c) ⟨none,0,L,rs,R,rfl,fun b o e _=>e,?_,?_,?_⟩ ?_ ?_ ?_
   · rw [List.take_zero,gvC_nil]
     exact W.same s4
   · rw [List.take_zero,gvC_nil]
     refine cR ?_
     have h1:cntT n ps g=((Mx.trs n (enR n ps) (gvL ps (others n g))).length:Nat):=Mx.det_trs hx0
     have h2:=pos 0
     rw [List.take_zero,gvC_nil] at h2
     omega
   · intro k hk
     rw [List.take_zero,gvC_nil,Nat.zero_add]
   · rintro i σ H5 hi ⟨v,nm,L5,rs5,R5,rfl,k5,W5,c5,g5⟩
     exact SqL.of (k5 _ _ hd2 nyd2)
   · rintro i z σ H5 hz ⟨v,nm,L5,rs5,R5,rfl,k5,W5,c5,g5⟩
     obtain ⟨p,hp0,rfl⟩:=nats_get hz
     obtain ⟨hpn,hpg⟩:=others_mem.mp (List.mem_of_getElem? hp0)
     have et:(others n g).take (i+1)=(others n g).take i++[p]:=by rw [List.take_add_one,hp0]; rfl
     obtain ⟨hpl,hopen⟩:=gvC_open (ps:=ps) (c:=c) hp0
     have hset:=gvC_set (ps:=ps) (c:=c) hp0
     have hsort:(gvC n g ps ((others n g).take i) c p).Pairwise (· < ·):=by rw [hopen]; exact exits_sorted _ _
     have k05:∀ b o,H2 b=some o→H5 b=some o:=fun b o e=>k5 b o (s2B _ _ e) (ny b o e)
     have N5:NetAt t.C_Net H5 x l as n ps:=⟨⟨_,k05 _ _ (s2 _ _ ex)⟩,k05 _ _ (s2 _ _ N.ls),(N.ts.same s2).mono fun b o e=>k05 _ _ e,N.ok⟩
     have h15:H5 d1=some (.lst (as.map V.ref)):=k05 _ _ hd1
     have h5e:H5 e=some (.lst (treeV n g c)):=k05 _ _ (s2 _ _ he)
     have hcp:=hc p hpn hpg
     have hrl:=hcl p hpn hpg
     have hA:=ahead_eq hends hpn hopen (hxC i) c5
     have hpos:0 < Mx.det n (Mx.Rows (enR n ps) (gvC n g ps ((others n g).take i) c)):=by rw [Mx.det_trs (hxC i)]; have:=pos i; omega
     have itp:atI (treeV n g c) ((p:Nat):Int)=some (V.int (c p:Nat)):=atI_nat (by simp [treeV,hpn,hpg])
     open_k with [rIxL,tAug]
     refine ⟨_,SqL.of h5e,_,itp,x,l,y,L5,as,rs5,n,p,ps,_,R5,c p,rfl,N5,W5,hpn,fun H6 s6=>?_⟩
     have W6:=W5.same s6
     obtain ⟨dT6,eT6⟩:=W6.ob
     obtain ⟨a,ha,hH⟩:=N5.ts.get' (i:=c p) (q:=ps[c p]) (by simp [hrl])
     have er:ps[c p].2=((enR n ps (c p):Nat):Int):=by
      rw [enR_in hrl]
      have gg:ps.getD (c p) (0,0)=ps[c p]:=by rw [List.getD_eq_getElem?_getD]; simp [hrl]
      rw [gg]
      have:=ends_in hends (List.getElem_mem hrl)
      omega
     have S:=give_step (gv:=gvC n g ps ((others n g).take i) c) hends (by omega) (fun i' _=>gvC_len (by omega) _ _ _) hpn c5 hpos [c p] (fun r' hr'=>(List.mem_singleton.mp hr') ▸ hrl) (show 1≤64 by decide)
     obtain ⟨S1,S2,S3⟩:=S
     rw [gvC_put hpl] at S2 S3
     have eput:Mx.put c p (c p)=c:=by
      funext j
      simp only [Mx.put]
      split
      · rename_i h; rw [h]
      · rfl
     rw [eput] at S2 S3
     open_k with [rIxL,rIxT]
     refine ⟨_,_,eT6,tfl_no _ _ (by decide +kernel) (by decide +kernel),_,SqL.of (s6 _ _ h5e),_,itp,_,_,rfl,SqL.of (s6 _ _ h15),_,atI_nat (j:=c p) (v:=.ref a) (by rw [List.getElem?_map,ha]; rfl),a,rfl,_,SqT.of (s6 _ _ hH),_,atI_nat (j:=1) rfl,by decide,fun D hD=>?_⟩
     rw [er]
     have s8:=s6.trans (Same.new (o:=HO.lst [.int ((enR n ps (c p):Nat):Int)]) hD)
     refine ⟨y,L5,D,rs5,n,p,_,R5,[enR n ps (c p)],rfl,W5.same s8,upd_same,hpn,by omega,fun e' he'=>?_,(show 1≤64 by decide),S1,fun L9 rs9 H9 k9 W9=>?_⟩
     · have:e'=enR n ps (c p):=by simpa using he'
       rw [this]
       exact enR_lt hends hrl
     have enum:(nm:Int)+aheadR n ps R5 p (c p:Nat)=(((nm+Mx.aheadT n (enR n ps) (gvC n g ps ((others n g).take i) c) p (c p):Nat)):Int):=by rw [hA]; omega
     rw [enum]
     refine ⟨_,_,L9,rs9,chg (Mx.det n (Mx.Rows (enR n ps) (gvC n g ps ((others n g).take i) c))) R5 [enR n ps (c p)] p,rfl,fun b o e hb=>k9 b o (s8 _ _ (k5 b o e hb)) hb,?_,?_,fun k hk=>?_⟩
     · rw [et]
       rw [← S2]
       exact W9
     · rw [et]
       exact S3
     · rw [et] at hk ⊢
       have hk':k < (Mx.trs n (enR n ps) (Mx.putG (gvC n g ps ((others n g).take i) c) p [c p])).length:=by rw [gvC_put hpl,eput]; exact hk
       have st:=Mx.step_at (en:=enR n ps) hpn hset hsort (by rw [hopen]; exact hcp) hk'
       rw [gvC_put hpl,eput] at st
       rw [← st,Nat.add_assoc]
       refine g5 _ ?_
       have:(Mx.trs n (enR n ps) (gvC n g ps ((others n g).take i) c))[Mx.aheadT n (enR n ps) (gvC n g ps ((others n g).take i) c) p (c p)+k]? ≠ none:=by
        rw [st]
        simp
        exact hk
       exact Classical.byContradiction fun z=>this (List.getElem?_eq_none (by omega))
   · rintro σ H5 ⟨v,nm,L5,rs5,R5,rfl,k5,W5,c5,g5⟩
     rw [nats_len,List.take_length] at g5
     have p0:=pos (others n g).length
     have hm0:=hmem (others n g).length
     rw [List.take_length] at p0 hm0
     obtain ⟨e0,e1,_⟩:=gvC_end hends (fun j hj=>hcl j (others_mem.mp hj).1 (others_mem.mp hj).2) p0
     have g0:=g5 0 p0
     rw [Nat.add_zero,e1] at g0
     open_k with []
     exact q H5 nm (fun b o e=>k5 b o (s2B _ _ (s2 _ _ e)) (ny b o (s2 _ _ e))) g0
end
end Rb
namespace Rb
open PySem L2
section
variable {CX:CXT} {P:Program} {w:World} {K:PySem.W.Frag} {mg:Str→Option Value} {base:Heap} {t:Adr}
def sp_first_place (C:Addr):Sp:=fun vs H Q _=>∃ (x l:Addr) (as:List Addr) (n:Nat) (ps:List Pr),vs=[.ref x]∧NetAt C H x l as n ps∧∀ H',Same H H'→Q (.int (stR ps 0)) H'
theorem ok_y (c0:NoX CX) (T:Txt K mg t):FnOk P w K mg base CX 2 t.f_y t.d_y ["net"] (sp_first_place t.C_Net):=by
 refine T.F_y.okX sc_y (fun vs H Q E h=>?_) (fun cdv A outer s H vs Q E hr h=>?_)
 · obtain ⟨x,l,as,n,ps,rfl,_⟩:=h
   rfl
 · obtain ⟨x,l,as,n,ps,rfl,N,q⟩:=h
   obtain ⟨dx,ex⟩:=N.ob
   obtain ⟨⟨n1,n2⟩,⟨l1,l2⟩,hends,_⟩:=netOk_parts N.ok
   obtain ⟨a,ha,hH⟩:=N.ts.get' (i:=0) (q:=ps[0]) (by simp)
   have er:ps[0].1=((stR ps 0:Nat):Int):=by
    rw [(stR_cast hends (by omega)).1,List.getD_eq_getElem?_getD]
    simp [show 0 < ps.length by omega]
   refine ⟨_,(pss_one (ps_ret (pe_ix ix_tup (pe_ix ix_list (pe_meth0 (pv 0) T.cl_Net T.M_e1 (ok_e1 c0 T) (hr.mono (by decide)) T.b_e1 .nil (pass1 c0)) pe_int (fun _ _=>rfl)) pe_int (fun _ _=>rfl)))),?_⟩
   open_k with [rIxL,rIxT]
   refine ⟨_,_,ex,nfl_no _ _ (by decide +kernel) (by decide +kernel),x,l,as,n,ps,rfl,N,fun d1 fd1=>⟨d1,rfl,_,SqL.of upd_same,_,atI_nat (j:=0) (v:=.ref a) (by rw [List.getElem?_map,ha]; rfl),a,rfl,_,SqT.of (upd_old hH fd1),_,atI_nat (j:=0) rfl,?_⟩⟩
   rw [er]
   exact q _ (Same.new fd1)
def sp_unlike (C:Addr):Sp:=fun vs H Q _=>∃ (x l:Addr) (as:List Addr) (n:Nat) (ps:List Pr),vs=[.ref x]∧NetAt C H x l as n ps∧∀ (d:Addr) (H':Hp),Same H H'→H d=none→H' d=some (.lst (nats (unlikeOf n ps)))→Q (.ref d) H'
theorem ok_n (c0:NoX CX) (T:Txt K mg t):FnOk P w K mg base CX 2 t.f_n t.d_n ["net"] (sp_unlike t.C_Net):=by
 refine T.F_n.okX sc_n (fun vs H Q E h=>?_) (fun cdv A outer s H vs Q E hr h=>?_)
 · obtain ⟨x,l,as,n,ps,rfl,_⟩:=h
   rfl
 · obtain ⟨x,l,as,n,ps,rfl,N,q⟩:=h
   obtain ⟨dx,ex⟩:=N.ob
   obtain ⟨⟨n1,n2⟩,⟨l1,l2⟩,hends,_⟩:=netOk_parts N.ok
   have la:=N.ts.len
   refine ⟨_,(pss_cons (ps_set (i:=1) sc_n.nd (by rfl) (Or.inr rfl) (pe_comp (own:=(["start","end"]:List Str)) (fr:=([]:List Str)) (ix:=([]:List Nat)) (by rfl) ⟨by rfl,by decide +kernel,by rfl,by rfl,by rfl⟩ (pi_list (pe_meth0 (pv 0) T.cl_Net T.M_e1 (ok_e1 c0 T) (hr.mono (by decide)) T.b_e1 .nil (pass1 c0))) (fun _=>(pg_tup (n:=2) (by rfl) (pgs_cons (pg_name (i:=0) (show List.Nodup (["start","end"]:List Str) by decide +kernel) (by rfl) (Or.inl rfl)) (pgs_cons (pg_name (i:=1) (show List.Nodup (["start","end"]:List Str) by decide +kernel) (by rfl) (Or.inl rfl)) pgs_nil)))) (fun _ hB=>pts_nil) (fun _ hB=>(pv 0))))
 (pss_cons (ps_set (i:=2) sc_n.nd (by rfl) (Or.inr rfl) (pe_comp (own:=(["start","end"]:List Str)) (fr:=([]:List Str)) (ix:=([]:List Nat)) (by rfl) ⟨by rfl,by decide +kernel,by rfl,by rfl,by rfl⟩ (pi_list (pe_meth0 (pv 0) T.cl_Net T.M_e1 (ok_e1 c0 T) (hr.mono (by decide)) T.b_e1 .nil (pass1 c0))) (fun _=>(pg_tup (n:=2) (by rfl) (pgs_cons (pg_name (i:=0) (show List.Nodup (["start","end"]:List Str) by decide +kernel) (by rfl) (Or.inl rfl)) (pgs_cons (pg_name (i:=1) (show List.Nodup (["start","end"]:List Str) by decide +kernel) (by rfl) (Or.inl rfl)) pgs_nil)))) (fun _ hB=>pts_nil) (fun _ hB=>(pv 1))))
 (pss_one (ps_ret (pe_comp (own:=(["place"]:List Str)) (fr:=(["starts","ends"]:List Str)) (ix:=([1,2]:List Nat)) (by rfl) ⟨by rfl,by decide +kernel,by rfl,by rfl,by rfl⟩ (pi_range1 (by rfl) T.n_range (pa_cons (pe_meth0 (pv 0) T.cl_Net T.M_v (ok_v c0 T) (hr.mono (by decide)) T.b_v .nil (pass1 c0)) pa_nil)) (fun _=>(pg_name (i:=0) (show List.Nodup (["place","starts","ends"]:List Str) by decide +kernel) (by rfl) (Or.inl rfl))) (fun _ hB=>(pts_one (pt_cmpR op_ne (pe_bm PySem.F.plainAttrs_list PySem.F.slot_list_count PySem.F.type_list_count mt_count (pv 1) (pa_cons (pv 0) pa_nil)) (pe_bm PySem.F.plainAttrs_list PySem.F.slot_list_count PySem.F.type_list_count mt_count (pv 2) (pa_cons (pv 0) pa_nil)) (nomark _)))) (fun _ hB=>(pv 0))))))),?_⟩
   open_k with []
   refine ⟨_,_,ex,nfl_no _ _ (by decide +kernel) (by decide +kernel),x,l,as,n,ps,rfl,N,fun d1 fd1=>⟨d1,rfl,⟨_,SqL.of upd_same⟩,?_⟩⟩
   have s1:Same H (upd H d1 (.lst (as.map V.ref))):=Same.new fd1
   have hd1:upd H d1 (.lst (as.map V.ref)) d1=some (.lst (as.map V.ref)):=upd_same
   generalize upd H d1 (.lst (as.map V.ref))=H1 at *
   have ht1:=N.ts.same s1
   refine blk_list (xs:=as.map V.ref) (fun i ys σ H'=>∃ u v,σ=[u,v]∧H'=H1∧ys=((ps.take i).map (·.1)).map V.int) (by rw [List.length_map,la]; exact small_le (by omega)) ⟨none,none,rfl,rfl,rfl⟩ ?_ ?_ ?_
   · rintro i ys σ H2 hi ⟨u,v,rfl,rfl,rfl⟩
     exact ⟨SqL.of hd1,by simp; omega⟩
   · rintro bk i v ys σ H2 hv ⟨u,v',rfl,rfl,rfl⟩
     obtain ⟨a,rfl,ha⟩:=map_ref hv
     obtain ⟨q',hq,hH⟩:=ht1.get ha
     refine gtup2 (SqT.of hH) ?_
     open_k with []
     rw [List.take_add_one,hq]
     simp
   · rintro ys σ H2 D ⟨u,v,rfl,rfl,rfl⟩ hD
     rw [List.length_map,la,List.take_length]
     have s2:Same H (upd H2 D (.lst ((ps.map (·.1)).map V.int))):=s1.upd' hD
     have hD1:upd H2 D (.lst ((ps.map (·.1)).map V.int)) D=some (.lst ((ps.map (·.1)).map V.int)):=upd_same
     generalize upd H2 D (.lst ((ps.map (·.1)).map V.int))=H3 at *
     refine ⟨_,_,s2 _ _ ex,nfl_no _ _ (by decide +kernel) (by decide +kernel),x,l,as,n,ps,rfl,N.same s2,fun d4 fd4=>⟨d4,rfl,⟨_,SqL.of upd_same⟩,?_⟩⟩
     have s4:Same H3 (upd H3 d4 (.lst (as.map V.ref))):=Same.new fd4
     have hd4:upd H3 d4 (.lst (as.map V.ref)) d4=some (.lst (as.map V.ref)):=upd_same
     generalize upd H3 d4 (.lst (as.map V.ref))=H4 at *
     have ht4:=(N.ts.same s2).same s4
     refine blk_list (xs:=as.map V.ref) (fun i ys σ H'=>∃ u v,σ=[u,v]∧H'=H4∧ys=((ps.take i).map (·.2)).map V.int) (by rw [List.length_map,la]; exact small_le (by omega)) ⟨none,none,rfl,rfl,rfl⟩ ?_ ?_ ?_
     · rintro i ys σ H5 hi ⟨u,v,rfl,rfl,rfl⟩
       exact ⟨SqL.of hd4,by simp; omega⟩
     · rintro bk i v ys σ H5 hv ⟨u,v',rfl,rfl,rfl⟩
       obtain ⟨a,rfl,ha⟩:=map_ref hv
       obtain ⟨q',hq,hH⟩:=ht4.get ha
       refine gtup2 (SqT.of hH) ?_
       open_k with []
       rw [List.take_add_one,hq]
       simp
     · rintro ys σ H5 D2 ⟨u,v,rfl,rfl,rfl⟩ hD2
       rw [List.length_map,la,List.take_length]
       have s5:Same H (upd H5 D2 (.lst ((ps.map (·.2)).map V.int))):=(s2.trans s4).upd' hD2
       have hD2':upd H5 D2 (.lst ((ps.map (·.2)).map V.int)) D2=some (.lst ((ps.map (·.2)).map V.int)):=upd_same
       have hD1':upd H5 D2 (.lst ((ps.map (·.2)).map V.int)) D=some (.lst ((ps.map (·.1)).map V.int)):=upd_old (s4 _ _ hD1) hD2
       generalize upd H5 D2 (.lst ((ps.map (·.2)).map V.int))=H6 at *
       refine ⟨_,_,s5 _ _ ex,nfl_no _ _ (by decide +kernel) (by decide +kernel),x,l,as,n,ps,rfl,N.same s5,_,rfl,by omega,by omega,blk_range (fun i ys σ H'=>∃ u,σ=[u,some (.ref D),some (.ref D2)]∧H'=H6∧ys=nats (unlikeOf i ps)) (by rw [Int.toNat_natCast]; exact small_le (by omega)) ⟨none,rfl,rfl,rfl⟩ ?_ ?_ ?_⟩
       · rintro i ys σ H7 hi ⟨u,rfl,rfl,rfl⟩
         rw [nats_len]
         exact Nat.le_trans (List.length_filter_le _ _) (by simp)
       · rintro bk i ys σ H7 hi ⟨u,rfl,rfl,rfl⟩
         open_k with [Int.zero_add,rCount]
         refine ⟨Or.inl ⟨rfl,_,SqL.of hD1'⟩,_,hD1',Or.inl ⟨rfl,_,SqL.of hD2'⟩,_,hD2',rfl,?_⟩
         have e:unlikeOf (i+1) ps=unlikeOf i ps++if (ps.map (·.1)).count (i:Int)=(ps.map (·.2)).count (i:Int) then [] else [i]:=by
          unfold unlikeOf
          rw [List.range_succ,List.filter_append,List.filter_cons]
          by_cases c:(ps.map (·.1)).count (i:Int)=(ps.map (·.2)).count (i:Int) <;> simp [c]
         rw [e,nats_append]
         by_cases c:(ps.map (·.1)).count (i:Int)=(ps.map (·.2)).count (i:Int)
         · simp [c,nats]
         · have c':¬ (((ps.map (·.1)).count (i:Int):Nat):Int)=(((ps.map (·.2)).count (i:Int):Nat):Int):=by omega
           simp [c,c',nats]
       · rintro ys σ H7 D3 ⟨u,rfl,rfl,rfl⟩ hD3
         rw [Int.toNat_natCast]
         exact q D3 _ (s5.upd' hD3) (s5.free hD3) upd_same
def PvRW (HB:Hp) (x d1 dr:Addr) (n:Nat) (ps:List Pr) (k:Nat) (σ:St) (H':Hp):Prop:=∃ (rs:List Nat) (done:Nat) (v:Option V),σ=[some (.ref x),some (.ref d1),some (.ref dr),some (.int done),v]∧(∀ b o,HB b=some o→b ≠ dr→H' b=some o)∧H' dr=some (.lst (nats rs))∧Grown n ps rs done∧k=33 - done
def PvRF (HB:Hp) (x d1 dr:Addr) (n:Nat) (ps:List Pr) (rs:List Nat) (done p:Nat) (d3:Addr) (i:Nat) (σ:St) (H':Hp):Prop:=∃ (rs':List Nat) (v:Option V),σ=[some (.ref x),some (.ref d1),some (.ref dr),some (.int done),v]∧(∀ b o,HB b=some o→b ≠ dr→H' b=some o)∧H' dr=some (.lst (nats rs'))∧H' d3=some (.lst (nats (exitsOf ps p)))∧d3 ≠ dr∧Grows n ps rs done p i rs'
def sp_reached (C:Addr):Sp:=fun vs H Q _=>∃ (x l:Addr) (as:List Addr) (n:Nat) (ps:List Pr),vs=[.ref x]∧NetAt C H x l as n ps∧∀ (d:Addr) (H':Hp) (rs:List Nat),Same H H'→H d=none→H' d=some (.lst (nats rs))→(∀ p,p∈rs↔ReachP n ps p)→rs.length≤32→Q (.ref d) H'
theorem ok_i (c0:NoX CX) (T:Txt K mg t):FnOk P w K mg base CX 4 t.f_i t.d_i ["net"] (sp_reached t.C_Net):=by
 refine T.F_i.okX sc_i (fun vs H Q E h=>?_) (fun cdv A outer s H vs Q E hr h=>?_)
 · obtain ⟨x,l,as,n,ps,rfl,_⟩:=h
   rfl
 · obtain ⟨x,l,as,n,ps,rfl,N,q⟩:=h
   obtain ⟨dx,ex⟩:=N.ob
   obtain ⟨⟨n1,n2⟩,⟨l1,l2⟩,hends,_⟩:=netOk_parts N.ok
   have la:=N.ts.len
   refine ⟨_,(pss_cons (ps_set (i:=1) sc_i.nd (by rfl) (Or.inl rfl) (pe_meth0 (pv 0) T.cl_Net T.M_e1 (ok_e1 c0 T) (hr.mono (by decide)) T.b_e1 .nil (pass1 c0)))
 (pss_cons (ps_set (i:=2) sc_i.nd (by rfl) (Or.inl rfl) (pe_lst (pa_cons (pe_call (ok_y c0 T) (hr.mono (by decide)) (by rfl) T.m_y T.F_y.kp T.b_y .nil (pass1 c0) (pa_cons (pv 0) pa_nil)) pa_nil)))
 (pss_cons (ps_set (i:=3) sc_i.nd (by rfl) (Or.inl rfl) pe_int)
 (pss_cons (ps_while PassesOwn.never (pt_cmpR op_lt (pv 3) (pe_callB call_len (by rfl) T.n_len (by decide +kernel:bootBuiltins "len"=some (.builtin "len")) (pa_cons (pv 2) pa_nil)) (nomark _))
 (pss_cons (ps_for PassesOwn.never (by rfl) (pi_list (pe_meth (pv 0) T.cl_Net T.M_f1 (ok_f1 c0 T) (hr.mono (by decide)) T.b_f1 .nil (pass1 c0) (pa_cons (pe_ix ix_list (pv 2) (pv 3) (fun _ _=>rfl)) pa_nil))) (pg_name (i:=4) sc_i.nd (by rfl) (Or.inl rfl))
 (pss_one (ps_if (pt_cmpR op_notIn_seq (pe_ix ix_tup (pe_ix ix_list (pv 1) (pv 4) (fun _ _=>rfl)) pe_int (fun _ _=>rfl)) (pv 2) (by with_unfolding_all rfl))
 (pss_one (ps_expr (pe_bm PySem.F.plainAttrs_list PySem.F.slot_list_append PySem.F.type_list_append mt_append (pv 2) (pa_cons (pe_ix ix_tup (pe_ix ix_list (pv 1) (pv 4) (fun _ _=>rfl)) pe_int (fun _ _=>rfl)) pa_nil))))
 pss_nil)))
 (pss_one (ps_aug (i:=3) sc_i.nd (by rfl) (Or.inl rfl) pe_int iop_add))))
 (pss_one (ps_ret (pv 2))))))),?_⟩
   open_k with []
   refine ⟨_,_,ex,nfl_no _ _ (by decide +kernel) (by decide +kernel),x,l,as,n,ps,rfl,N,fun d1 fd1=>?_⟩
   have s1:Same H (upd H d1 (.lst (as.map V.ref))):=Same.new fd1
   have hd1:upd H d1 (.lst (as.map V.ref)) d1=some (.lst (as.map V.ref)):=upd_same
   generalize upd H d1 (.lst (as.map V.ref))=H1 at *
   refine ⟨x,l,as,n,ps,rfl,N.same s1,fun H2 s2=>⟨by decide,fun dr fdr=>?_⟩⟩
   have s12:=s1.trans s2
   have e0:[V.int ((stR ps 0:Nat):Int)]=nats [stR ps 0]:=rfl
   rw [e0]
   have ndr:∀ b o,H2 b=some o→b ≠ dr:=fun b o e=>ne_of_none e fdr
   refine ⟨PvRW H2 x d1 dr n ps,⟨33,[stR ps 0],0,none,rfl,fun b o e hb=>by rw [upd_ne hb]; exact e,upd_same,Grown.first hends (by omega),rfl⟩,?_⟩
   rintro k σ H3 ⟨rs,done,v,rfl,k3,h3,G,rfl⟩
   have rl:=nodup_len G.nd G.lt
   have k03:∀ b o,H b=some o→H3 b=some o:=fun b o e=>k3 b o (s12 _ _ e) (ndr b o (s12 _ _ e))
   have N3:NetAt t.C_Net H3 x l as n ps:=⟨⟨_,k03 _ _ ex⟩,k03 _ _ N.ls,N.ts.mono fun b o e=>k03 _ _ e,N.ok⟩
   open_k with []
   refine ⟨_,lenL (SqL.of h3),?_⟩
   rw [nats_len]
   by_cases c:done < rs.length
   · rw [if_pos (decide_eq_true (by omega))]
     obtain ⟨p,hp⟩:∃ p,rs[done]?=some p:=⟨rs[done],by simp [c]⟩
     have hpm:=List.mem_of_getElem? hp
     have hpn:=G.lt p hpm
     have hpr:=G.re p hpm
     have ip:atI (nats rs) ((done:Nat):Int)=some (.int (p:Nat)):=atI_nat (by unfold nats; rw [List.getElem?_map,hp]; rfl)
     refine ⟨fun σ' H'=>PvRW H2 x d1 dr n ps (33 - (done+1)) σ' H',fun σ' H' z=>⟨33 - (done+1),by omega,z⟩,?_⟩
     open_k with [rIxL]
     refine ⟨_,_,k03 _ _ ex,nfl_no _ _ (by decide +kernel) (by decide +kernel),_,SqL.of h3,_,ip,x,l,as,n,ps,p,rfl,N3,by rw [within_iff]; omega,fun d3 H4 s4 fd3 hd3=>⟨d3,rfl,⟨_,SqL.of hd3⟩,?_⟩⟩
     have nd3:d3 ≠ dr:=fun z=>by rw [z,h3] at fd3; cases fd3
     refine forb_list (xs:=nats (exitsOf ps p)) (PvRF H2 x d1 dr n ps rs done p d3) ⟨rs,v,rfl,fun b o e hb=>s4 _ _ (k3 b o e hb),s4 _ _ h3,hd3,nd3,Grows.start G⟩ ?_ ?_ ?_
     · rintro i σ' H5 hi ⟨rs',v',rfl,k5,h5,h5d,_,G5⟩
       exact SqL.of h5d
     · rintro i z σ' H5 hz ⟨rs',v',rfl,k5,h5,h5d,_,G5⟩
       obtain ⟨r,hr0,rfl⟩:=nats_get hz
       obtain ⟨hrl,_⟩:=exits_lt (List.mem_of_getElem? hr0)
       obtain ⟨a,ha,hH⟩:=N.ts.get' (i:=r) (q:=ps[r]) (by simp [hrl])
       have er:ps[r].2=((enR n ps r:Nat):Int):=by
        rw [enR_in hrl]
        have gg:ps.getD r (0,0)=ps[r]:=by rw [List.getD_eq_getElem?_getD]; simp [hrl]
        rw [gg]
        have:=ends_in hends (List.getElem_mem hrl)
        omega
       have h1d:H5 d1=some (.lst (as.map V.ref)):=k5 _ _ (s2 _ _ hd1) (ndr _ _ (s2 _ _ hd1))
       have hHa:H5 a=some (pairO ps[r]):=k5 _ _ (s12 _ _ hH) (ndr _ _ (s12 _ _ hH))
       have ia:atI (as.map V.ref) ((r:Nat):Int)=some (.ref a):=atI_nat (by rw [List.getElem?_map,ha]; rfl)
       open_k with [rIxL,rIxT,rIn]
       refine ⟨_,SqL.of h1d,_,ia,a,rfl,_,SqT.of hHa,_,atI_nat (j:=1) rfl,_,Or.inl (SqL.of h5),rfl,by simp [nats,flatV],?_⟩
       have hin:inV (V.int ps[r].2) (nats rs')=decide (enR n ps r∈rs'):=by rw [er]; exact in_nats
       rw [hin]
       by_cases cm:enR n ps r∈rs'
       · rw [if_neg (by simp [cm])]
         exact ⟨rs',_,rfl,k5,h5,h5d,nd3,G5.stay hr0 cm⟩
       · rw [if_pos (by simp [cm])]
         have rl':=nodup_len G5.nd G5.lt
         refine ⟨Or.inl ⟨rfl,_,SqL.of h5⟩,_,SqL.of h1d,_,ia,a,rfl,_,SqT.of hHa,_,atI_nat (j:=1) rfl,dr,_,_,rfl,rfl,h5,by rw [nats_len]; exact small1000 (by omega),rs'++[enR n ps r],_,rfl,fun b o e hb=>by rw [upd_ne hb]; exact k5 b o e hb,?_,by rw [upd_ne nd3]; exact h5d,nd3,G5.more hends hpr hr0 cm⟩
         rw [upd_same,nats_append,er]
         rfl
     · rintro σ' H5 ⟨rs',v',rfl,k5,h5,h5d,_,G5⟩
       rw [nats_len] at G5
       open_k with [tAug]
       have e1:((done:Nat):Int)+1=((done+1:Nat):Int):=by omega
       rw [e1]
       exact ⟨rs',done+1,_,rfl,k5,h5,G5.done hends G hp,rfl⟩
   · rw [if_neg (by simp; omega)]
     have e1:done=rs.length:=by have:=G.dn; omega
     exact q dr H3 rs k03 (s12.free fdr) h3 (e1 ▸ G).all (by omega)
def sp_apart (C:Addr):Sp:=fun vs H Q _=>∃ (x l:Addr) (as:List Addr) (n:Nat) (ps:List Pr),vs=[.ref x]∧NetAt C H x l as n ps∧∀ (d:Addr) (H':Hp),Same H H'→H d=none→H' d=some (.lst (nats (apartOf n ps)))→Q (.ref d) H'
theorem ok_q (c0:NoX CX) (T:Txt K mg t):FnOk P w K mg base CX 5 t.f_q t.d_q ["net"] (sp_apart t.C_Net):=by
 refine T.F_q.okX sc_q (fun vs H Q E h=>?_) (fun cdv A outer s H vs Q E hr h=>?_)
 · obtain ⟨x,l,as,n,ps,rfl,_⟩:=h
   rfl
 · obtain ⟨x,l,as,n,ps,rfl,N,q⟩:=h
   obtain ⟨dx,ex⟩:=N.ob
   obtain ⟨⟨n1,n2⟩,_,_,_⟩:=netOk_parts N.ok
   refine ⟨_,(pss_cons (ps_set (i:=1) sc_q.nd (by rfl) (Or.inr rfl) (pe_call (ok_i c0 T) (hr.mono (by decide)) (by rfl) T.m_i T.F_i.kp T.b_i .nil (pass1 c0) (pa_cons (pv 0) pa_nil)))
 (pss_one (ps_ret (pe_comp (own:=(["place"]:List Str)) (fr:=(["reached"]:List Str)) (ix:=([1]:List Nat)) (by rfl) ⟨by rfl,by decide +kernel,by rfl,by rfl,by rfl⟩ (pi_range1 (by rfl) T.n_range (pa_cons (pe_meth0 (pv 0) T.cl_Net T.M_v (ok_v c0 T) (hr.mono (by decide)) T.b_v .nil (pass1 c0)) pa_nil)) (fun _=>(pg_name (i:=0) (show List.Nodup (["place","reached"]:List Str) by decide +kernel) (by rfl) (Or.inl rfl))) (fun _ hB=>(pts_one (pt_cmpR op_notIn_seq (pv 0) (pv 1) (by with_unfolding_all rfl)))) (fun _ hB=>(pv 0)))))),?_⟩
   open_k with []
   refine ⟨x,l,as,n,ps,rfl,N,fun d H1 rs s1 fd hd hR hl=>?_⟩
   refine ⟨_,_,s1 _ _ ex,nfl_no _ _ (by decide +kernel) (by decide +kernel),x,l,as,n,ps,rfl,N.same s1,_,rfl,by omega,by omega,blk_range (fun i ys σ H'=>∃ u,σ=[u,some (.ref d)]∧H'=H1∧ys=nats (apartUp n ps i)) (by rw [Int.toNat_natCast]; exact small_le (by omega)) ⟨none,rfl,rfl,rfl⟩ ?_ ?_ ?_⟩
   · rintro i ys σ H2 hi ⟨u,rfl,rfl,rfl⟩
     rw [nats_len]
     exact Nat.le_trans (List.length_filter_le _ _) (by simp)
   · rintro bk i ys σ H2 hi ⟨u,rfl,rfl,rfl⟩
     open_k with [Int.zero_add,rIn]
     refine ⟨_,Or.inl (SqL.of hd),rfl,by simp [nats,flatV],?_⟩
     rw [in_nats,apartUp_succ,nats_append]
     by_cases c:ReachP n ps i
     · have cm:=(hR i).mpr c
       rw [if_neg (by simp [cm]),if_pos c]
       simp [nats]
     · have cm:¬ i∈rs:=fun z=>c ((hR i).mp z)
       rw [if_pos (by simp [cm]),if_neg c]
       simp [nats]
   · rintro ys σ H2 D ⟨u,rfl,rfl,rfl⟩ hD
     rw [Int.toNat_natCast]
     exact q D _ (s1.upd' hD) (s1.free hD) upd_same
inductive WhyV (n:Nat) (ps:List Pr) (H0 H':Hp):V→Prop
 | unlike {tp d:Addr}:unlikeOf n ps ≠ []→H0 tp=none→H0 d=none→H' tp=some (.tup [.str "unlike",.ref d])→H' d=some (.lst (nats (unlikeOf n ps)))→WhyV n ps H0 H' (.ref tp)
 | apart {tp d:Addr}:unlikeOf n ps=[]→apartOf n ps ≠ []→H0 tp=none→H0 d=none→H' tp=some (.tup [.str "apart",.ref d])→H' d=some (.lst (nats (apartOf n ps)))→WhyV n ps H0 H' (.ref tp)
 | none:unlikeOf n ps=[]→apartOf n ps=[]→WhyV n ps H0 H' .non
def sp_why (C:Addr):Sp:=fun vs H Q _=>∃ (x l:Addr) (as:List Addr) (n:Nat) (ps:List Pr),vs=[.ref x]∧NetAt C H x l as n ps∧∀ (v:V) (H':Hp),Same H H'→WhyV n ps H H' v→Q v H'
theorem nats_empty (l : List Nat) : (!(nats l).isEmpty) = decide (l ≠ []) := by
 cases l <;> simp [nats]
theorem ok_x1 (c0:NoX CX) (T:Txt K mg t):FnOk P w K mg base CX 6 t.f_x1 t.d_x1 ["net"] (sp_why t.C_Net):=by
 refine T.F_x1.okX sc_x1 (fun vs H Q E h=>?_) (fun cdv A outer s H vs Q E hr h=>?_)
 · obtain ⟨x,l,as,n,ps,rfl,_⟩:=h
   rfl
 · obtain ⟨x,l,as,n,ps,rfl,N,q⟩:=h
   refine ⟨_,(pss_cons (ps_set (i:=1) sc_x1.nd (by rfl) (Or.inl rfl) (pe_call (ok_n c0 T) (hr.mono (by decide)) (by rfl) T.m_n T.F_n.kp T.b_n .nil (pass1 c0) (pa_cons (pv 0) pa_nil)))
 (pss_cons (ps_if (pt_truth (pv 1) (fun _=>rfl))
 (pss_one (ps_ret (pe_tup (pa_cons pe_str (pa_cons (pv 1) pa_nil)))))
 pss_nil)
 (pss_cons (ps_set (i:=2) sc_x1.nd (by rfl) (Or.inl rfl) (pe_call (ok_q c0 T) (hr.mono (by decide)) (by rfl) T.m_q T.F_q.kp T.b_q .nil (pass1 c0) (pa_cons (pv 0) pa_nil)))
 (pss_cons (ps_if (pt_truth (pv 2) (fun _=>rfl))
 (pss_one (ps_ret (pe_tup (pa_cons pe_str (pa_cons (pv 2) pa_nil)))))
 pss_nil)
 (pss_one (ps_ret pe_non)))))),?_⟩
   open_k with []
   refine ⟨x,l,as,n,ps,rfl,N,fun d1 H1 s1 fd1 hd1=>⟨_,Or.inl ⟨_,SqL.of hd1,rfl⟩,?_⟩⟩
   rw [nats_empty]
   by_cases c1:unlikeOf n ps=[]
   · rw [if_neg (by simp [c1])]
     refine ⟨x,l,as,n,ps,rfl,N.same s1,fun d2 H2 s2 fd2 hd2=>⟨_,Or.inl ⟨_,SqL.of hd2,rfl⟩,?_⟩⟩
     rw [nats_empty]
     by_cases c2:apartOf n ps=[]
     · rw [if_neg (by simp [c2])]
       exact q _ _ (s1.trans s2) (.none c1 c2)
     · rw [if_pos (by simp [c2])]
       exact ⟨by decide,fun tp ftp=>q _ _ ((s1.trans s2).upd' ftp) (.apart c1 c2 ((s1.trans s2).free ftp) (s1.free fd2) upd_same (upd_old hd2 ftp))⟩
   · rw [if_pos (by simp [c1])]
     exact ⟨by decide,fun tp ftp=>q _ _ (s1.upd' ftp) (.unlike c1 (s1.free ftp) fd1 upd_same (upd_old hd1 ftp))⟩
def sp_factorial:Sp:=fun vs H Q _=>∃ k:Nat,vs=[.int k]∧k≤64∧Q (.int (Mx.fact k:Nat)) H
theorem ok_l1 (c0:NoX CX) (T:Txt K mg t):FnOk P w K mg base CX 1 t.f_l1 t.d_l1 ["number"] sp_factorial:=by
 refine T.F_l1.okX sc_l1 (fun vs H Q E h=>?_) (fun cdv A outer s H vs Q E hr h=>?_)
 · obtain ⟨k,rfl,_⟩:=h
   rfl
 · obtain ⟨k,rfl,hk,q⟩:=h
   refine ⟨_,(pss_cons (ps_set (i:=1) sc_l1.nd (by rfl) (Or.inl rfl) pe_int)
 (pss_cons (ps_for PassesOwn.never (by rfl) (pi_range2 (by rfl) T.n_range (pa_cons pe_int (pa_cons (pe_op op_add (pv 0) pe_int) pa_nil))) (pg_name (i:=2) sc_l1.nd (by rfl) (Or.inl rfl))
 (pss_one (ps_aug (i:=1) sc_l1.nd (by rfl) (Or.inl rfl) (pv 2) iop_mulB)))
 (pss_one (ps_ret (pv 1))))),?_⟩
   open_k with []
   refine ⟨by omega,by omega,by omega,by omega,forb_range (fun i σ H'=>∃ v,σ=[some (.int k),some (.int (Mx.fact i:Nat)),v]∧H'=H) ⟨none,rfl,rfl⟩ ?_ ?_⟩
   · rintro i σ H1 hi ⟨v,rfl,rfl⟩
     have hi':i < k:=by omega
     open_k with [tAug]
     refine ⟨⟨big_fact (by omega),?_⟩,?_⟩
     · have:=big_fact (k:=1) (by decide)
       have e:(1:Int)+(i:Int)=((1+i:Nat):Int):=by omega
       rw [e]
       exact big_pow (Nat.lt_of_lt_of_le (show 1+i < 2 ^ 10 by omega) (Nat.pow_le_pow_right (by decide) (by decide)))
     · have e:((Mx.fact i:Nat):Int) * (1+(i:Int))=((Mx.fact (i+1):Nat):Int):=by
        show _=(((i+1) * Mx.fact i:Nat):Int)
        rw [Int.mul_comm,Int.add_comm]
        push_cast
        rfl
       exact e
   · rintro σ H1 ⟨v,rfl,rfl⟩
     have e:((k:Int)+1 - 1).toNat=k:=by omega
     rw [e]
     open_k with []
     exact q
def sp_many_orders (C:Addr):Sp:=fun vs H Q _=>∃ (x l:Addr) (as:List Addr) (n:Nat) (ps:List Pr),vs=[.ref x]∧NetAt C H x l as n ps∧∀ H',Same H H'→Q (.int (Mx.prodTo (degP ps) n:Nat)) H'
theorem ok_z (c0:NoX CX) (T:Txt K mg t):FnOk P w K mg base CX 4 t.f_z t.d_z ["net"] (sp_many_orders t.C_Net):=by
 refine T.F_z.okX sc_z (fun vs H Q E h=>?_) (fun cdv A outer s H vs Q E hr h=>?_)
 · obtain ⟨x,l,as,n,ps,rfl,_⟩:=h
   rfl
 · obtain ⟨x,l,as,n,ps,rfl,N,q⟩:=h
   obtain ⟨dx,ex⟩:=N.ob
   obtain ⟨⟨n1,n2⟩,⟨l1,l2⟩,hends,hex⟩:=netOk_parts N.ok
   refine ⟨_,(pss_cons (ps_set (i:=1) sc_z.nd (by rfl) (Or.inl rfl) pe_int)
 (pss_cons (ps_for PassesOwn.never (by rfl) (pi_range1 (by rfl) T.n_range (pa_cons (pe_meth0 (pv 0) T.cl_Net T.M_v (ok_v c0 T) (hr.mono (by decide)) T.b_v .nil (pass1 c0)) pa_nil)) (pg_name (i:=2) sc_z.nd (by rfl) (Or.inl rfl))
 (pss_one (ps_aug (i:=1) sc_z.nd (by rfl) (Or.inl rfl) (pe_call (ok_l1 c0 T) (hr.mono (by decide)) (by rfl) T.m_l1 T.F_l1.kp T.b_l1 .nil (pass1 c0) (pa_cons (pe_op op_sub (pe_callB call_len (by rfl) T.n_len (by decide +kernel:bootBuiltins "len"=some (.builtin "len")) (pa_cons (pe_meth (pv 0) T.cl_Net T.M_f1 (ok_f1 c0 T) (hr.mono (by decide)) T.b_f1 .nil (pass1 c0) (pa_cons (pv 2) pa_nil)) pa_nil)) pe_int) pa_nil)) iop_mulB)))
 (pss_one (ps_ret (pv 1))))),?_⟩
   open_k with []
   refine ⟨_,_,ex,nfl_no _ _ (by decide +kernel) (by decide +kernel),x,l,as,n,ps,rfl,N,_,rfl,by omega,by omega,forb_range (fun i σ H'=>∃ v,σ=[some (.ref x),some (.int (Mx.prodTo (degP ps) i:Nat)),v]∧Same H H') ⟨none,rfl,Same.refl _⟩ ?_ ?_⟩
   · rintro i σ H1 hi ⟨v,rfl,s1⟩
     rw [Int.toNat_natCast] at hi
     open_k with [tAug,Int.zero_add]
     refine ⟨_,_,s1 _ _ ex,nfl_no _ _ (by decide +kernel) (by decide +kernel),x,l,as,n,ps,i,rfl,N.same s1,by rw [within_iff]; omega,fun d H2 s2 fd hd=>?_⟩
     obtain ⟨k,hk,e⟩:=exits_some hex hi
     have hm:k∈exitsOf ps i:=(exits_iff hends).mpr ⟨hk,by have:=(stR_cast hends hk).1; omega⟩
     have hpos:1≤(exitsOf ps i).length:=List.length_pos_of_mem hm
     have hle:=exits_len ps i
     refine ⟨_,lenL (SqL.of hd),(exitsOf ps i).length - 1,?_,by omega,?_⟩
     · rw [nats_len]
       congr 2
       omega
     refine ⟨_,rfl,⟨prod_big hends (by omega) (by omega),deg_big (i:=i) (by omega)⟩,?_⟩
     have e:((Mx.prodTo (degP ps) i:Nat):Int) * ((Mx.fact ((exitsOf ps i).length - 1):Nat):Int)=((Mx.prodTo (degP ps) (i+1):Nat):Int):=by
      show _=((Mx.prodTo (degP ps) i * degP ps i:Nat):Int)
      push_cast
      rfl
     rw [e]
     exact ⟨rfl,s1.trans s2⟩
   · rintro σ H1 ⟨v,rfl,s1⟩
     rw [Int.toNat_natCast]
     open_k with []
     exact q H1 s1
def sp_many_rings (C:Addr):Sp:=fun vs H Q _=>∃ (x l:Addr) (as:List Addr) (n:Nat) (ps:List Pr),vs=[.ref x]∧NetAt C H x l as n ps∧unlikeOf n ps=[]∧apartOf n ps=[]∧∀ H',Same H H'→Q (.int (cntT n ps (stR ps 0) * (Mx.prodTo (degP ps) n:Nat))) H'
theorem ok_i1 (c0:NoX CX) (T:Txt K mg t):FnOk P w K mg base CX 7 t.f_i1 t.d_i1 ["net"] (sp_many_rings t.C_Net):=by
 refine T.F_i1.okX sc_i1 (fun vs H Q E h=>?_) (fun cdv A outer s H vs Q E hr h=>?_)
 · obtain ⟨x,l,as,n,ps,rfl,_⟩:=h
   rfl
 · obtain ⟨x,l,as,n,ps,rfl,N,hu,ha,q⟩:=h
   obtain ⟨⟨n1,n2⟩,⟨l1,l2⟩,hends,hex⟩:=netOk_parts N.ok
   refine ⟨_,(pss_cons (ps_if (pt_cmpR op_notN (pe_call (ok_x1 c0 T) (hr.mono (by decide)) (by rfl) T.m_x1 T.F_x1.kp T.b_x1 .nil (pass1 c0) (pa_cons (pv 0) pa_nil)) pe_non (nomark _))
 (pss_one (ps_ret pe_int))
 pss_nil)
 (pss_one (ps_ret (pe_op op_mulB (pe_call (ok_g1 c0 T) (hr.mono (by decide)) (by rfl) T.m_g1 T.F_g1.kp T.b_g1 .nil (pass1 c0) (pa_cons (pv 0) (pa_cons (pe_call (ok_y c0 T) (hr.mono (by decide)) (by rfl) T.m_y T.F_y.kp T.b_y .nil (pass1 c0) (pa_cons (pv 0) pa_nil)) pa_nil))) (pe_call (ok_z c0 T) (hr.mono (by decide)) (by rfl) T.m_z T.F_z.kp T.b_z .nil (pass1 c0) (pa_cons (pv 0) pa_nil)))))),?_⟩
   open_k with []
   refine ⟨x,l,as,n,ps,rfl,N,fun v H1 s1 W=>?_⟩
   have ev:v=.non:=by
    cases W with
    | unlike h=>exact absurd hu h
    | apart _ h=>exact absurd ha h
    | none=>rfl
   subst ev
   show if (!decide (V.non = V.non)) = true then _ else _
   rw [if_neg (by simp)]
   refine ⟨x,l,as,n,ps,rfl,N.same s1,fun H2 s2=>?_⟩
   refine ⟨x,l,as,n,stR ps 0,ps,rfl,(N.same s1).same s2,(stR_cast hends (by omega)).2,fun H3 s3=>?_⟩
   refine ⟨x,l,as,n,ps,rfl,((N.same s1).same s2).same s3,fun H4 s4=>?_⟩
   refine ⟨_,rfl,_,rfl,⟨cnt_big (by omega) (by omega),prod_big hends (by omega) (Nat.le_refl _)⟩,?_⟩
   exact q H4 (((s1.trans s2).trans s3).trans s4)
theorem eqVs_int_iff:∀ (a b:List Int),eqVs (a.map V.int) (b.map V.int)=decide (a=b)
 | [],[]=>by simp [eqVs]
 | [],_ :: _=>by simp [eqVs]
 | _ :: _,[]=>by simp [eqVs]
 | x :: a,y :: b=>by
  show (eqV (.int x) (.int y) && eqVs (a.map V.int) (b.map V.int))=_
  rw [eqVs_int_iff a b]
  by_cases h:x=y <;> by_cases h2:a=b <;> simp [eqV,h,h2]
def RingP (n:Nat) (ps:List Pr) (ring:List Int):Prop:=∃ rn:List Nat,ring=rn.map (fun (k:Nat)=>(k:Int))∧rn.Perm (List.range ps.length)∧rn.head?=some 0∧rn.map (enR n ps)=(rn.map (stR ps)).drop 1++(rn.map (stR ps)).take 1
def sp_is_ring (C:Addr):Sp:=fun vs H Q _=>∃ (x l r:Addr) (as:List Addr) (n:Nat) (ps:List Pr) (ring:List Int),vs=[.ref x,.ref r]∧NetAt C H x l as n ps∧H r=some (.lst (ring.map V.int))∧ring.length≤64∧∀ (b:Bool) (H':Hp),Same H H'→(b=true↔RingP n ps ring)→Q (.bl b) H'
theorem ok_u1 (c0:NoX CX) (T:Txt K mg t):FnOk P w K mg base CX 2 t.f_u1 t.d_u1 ["net","ring"] (sp_is_ring t.C_Net):=by
 refine T.F_u1.okX sc_u1 (fun vs H Q E h=>?_) (fun cdv A outer s H vs Q E hr h=>?_)
 · obtain ⟨x,l,r,as,n,ps,ring,rfl,_⟩:=h
   rfl
 · obtain ⟨x,l,r,as,n,ps,ring,rfl,N,hr0,h64,q⟩:=h
   obtain ⟨dx,ex⟩:=N.ob
   obtain ⟨⟨n1,n2⟩,⟨l1,l2⟩,hends,hex⟩:=netOk_parts N.ok
   have la:=N.ts.len
   have lm:(as.map V.ref).length=ps.length:=by rw [List.length_map,la]
   refine ⟨_,(pss_cons (ps_set (i:=2) sc_u1.nd (by rfl) (Or.inr rfl) (pe_meth0 (pv 0) T.cl_Net T.M_e1 (ok_e1 c0 T) (hr.mono (by decide)) T.b_e1 .nil (pass1 c0)))
 (pss_cons (ps_if (PW.pt (pw_or (pt_cmpR (op_neS (hu0 hr)) (pe_callB Srt.call_sortedN (by rfl) T.n_sorted (by decide +kernel:bootBuiltins "sorted"=some (.builtin "sorted")) (pa_cons (pv 1) pa_nil)) (pe_lrng (by rfl) (by rfl) T.n_list (by rfl) T.n_range (pa_cons (pe_callB call_len (by rfl) T.n_len (by decide +kernel:bootBuiltins "len"=some (.builtin "len")) (pa_cons (pv 2) pa_nil)) pa_nil)) (nomark _)) (pw_or1 (pt_cmpR op_ne (pe_ix ix_list (pv 1) pe_int (fun _ _=>rfl)) pe_int (nomark _)))))
 (pss_one (ps_ret pe_bl))
 pss_nil)
 (pss_cons (ps_comp (i:=3) sc_u1.nd (by rfl) (Or.inl rfl) (own:=(["road"]:List Str)) (fr:=(["roads"]:List Str)) (ix:=([2]:List Nat)) (by rfl) ⟨by rfl,by decide +kernel,by rfl,by rfl,by rfl⟩ (pi_list (pv 1)) (fun _=>(pg_name (i:=0) (show List.Nodup (["road","roads"]:List Str) by decide +kernel) (by rfl) (Or.inl rfl))) (fun _ hB=>pts_nil) (fun _ hB=>(pe_ix ix_tup (pe_ix ix_list (pv 1) (pv 0) (fun _ _=>rfl)) pe_int (fun _ _=>rfl))))
 (pss_cons (ps_comp (i:=4) sc_u1.nd (by rfl) (Or.inl rfl) (own:=(["road"]:List Str)) (fr:=(["roads"]:List Str)) (ix:=([2]:List Nat)) (by rfl) ⟨by rfl,by decide +kernel,by rfl,by rfl,by rfl⟩ (pi_list (pv 1)) (fun _=>(pg_name (i:=0) (show List.Nodup (["road","roads"]:List Str) by decide +kernel) (by rfl) (Or.inl rfl))) (fun _ hB=>pts_nil) (fun _ hB=>(pe_ix ix_tup (pe_ix ix_list (pv 1) (pv 0) (fun _ _=>rfl)) pe_int (fun _ _=>rfl))))
 (pss_one (ps_ret (pe_cmpR (op_eqS (hu0 hr)) (pv 4) (pe_op op_cat (pe_slice sl_list (pv 3) (po_some pe_int) po_none) (pe_slice sl_list (pv 3) po_none (po_some pe_int))) (nomark _)))))))),?_⟩
   open_k with [tLRng]
   refine ⟨_,_,ex,nfl_no _ _ (by decide +kernel) (by decide +kernel),x,l,as,n,ps,rfl,N,fun d1 fd1=>?_⟩
   have s1:Same H (upd H d1 (.lst (as.map V.ref))):=Same.new fd1
   have hd1:upd H d1 (.lst (as.map V.ref)) d1=some (.lst (as.map V.ref)):=upd_same
   generalize upd H d1 (.lst (as.map V.ref))=H1 at *
   have hr1:=s1 _ _ hr0
   refine ⟨ring,SqL.of hr1,by omega,fun d2 ns' fd2 hp hs=>?_⟩
   have s2:Same H1 (upd H1 d2 (.lst (ns'.map V.int))):=Same.new fd2
   have hd2:upd H1 d2 (.lst (ns'.map V.int)) d2=some (.lst (ns'.map V.int)):=upd_same
   generalize upd H1 d2 (.lst (ns'.map V.int))=H2 at *
   refine ⟨_,lenL (SqL.of (s2 _ _ hd1)),ps.length,by rw [lm],by omega,fun d3 fd3=>?_⟩
   have s3:Same H2 (upd H2 d3 (.lst ((List.range ps.length).map fun (i:Nat)=>V.int (i:Int)))):=Same.new fd3
   have hd3:upd H2 d3 (.lst ((List.range ps.length).map fun (i:Nat)=>V.int (i:Int))) d3=some (.lst ((List.range ps.length).map fun (i:Nat)=>V.int (i:Int))):=upd_same
   generalize upd H2 d3 (.lst ((List.range ps.length).map fun (i:Nat)=>V.int (i:Int)))=H3 at *
   have s13:Same H H3:=(s1.trans s2).trans s3
   have em:((List.range ps.length).map fun (i:Nat)=>V.int (i:Int))=((List.range ps.length).map fun (i:Nat)=>(i:Int)).map V.int:=by simp
   rw [em] at hd3
   refine ⟨d2,d3,_,_,rfl,rfl,Or.inl ⟨SqL.of (s3 _ _ hd2),SqL.of hd3⟩,flat_ints _,flat_ints _,_,rfl,?_⟩
   have srt:((List.range ps.length).map fun (i:Nat)=>(i:Int)).Pairwise (· ≤ ·):=by
    rw [List.pairwise_map]
    exact List.pairwise_lt_range.imp fun h=>by omega
   have key:ns'=((List.range ps.length).map fun (i:Nat)=>(i:Int))↔ring.Perm ((List.range ps.length).map fun (i:Nat)=>(i:Int)):=by
    constructor
    · intro e
      rw [← e]
      exact hp.symm
    · intro h
      exact PySem.W.lks_uniq (hp.trans h) hs srt
   by_cases c1:ns'=((List.range ps.length).map fun (i:Nat)=>(i:Int))
   · rw [if_pos rfl,eqVs_int_iff,decide_eq_true c1,if_neg (by simp)]
     have hperm:=key.mp c1
     obtain ⟨rn,rfl,hrn⟩:∃ rn:List Nat,ring=rn.map (fun (k:Nat)=>(k:Int))∧rn.Perm (List.range ps.length):=by
      refine ⟨ring.map Int.toNat,?_,?_⟩
      · rw [List.map_map]
        conv=>lhs; rw [← List.map_id ring]
        refine List.map_congr_left fun z hz=>?_
        obtain ⟨k,_,rfl⟩:=List.mem_map.mp (hperm.subset hz)
        rfl
      · have:=hperm.map Int.toNat
        rw [List.map_map] at this
        have e:((List.range ps.length).map (Int.toNat ∘ fun (i:Nat)=>(i:Int)))=List.range ps.length:=by
         conv=>rhs; rw [← List.map_id (List.range ps.length)]
         exact List.map_congr_left fun k _=>rfl
        rw [e] at this
        exact this
     have lr:rn.length=ps.length:=by rw [hrn.length_eq]; simp
     have rlt:∀ k∈rn,k < ps.length:=fun k hk=>List.mem_range.mp (hrn.subset hk)
     have hr3:H3 r=some (.lst (nats rn)):=by
      rw [nats_int]
      exact s13 _ _ hr0
     obtain ⟨k0,rn',ec⟩:∃ k0 rn',rn=k0 :: rn':=by
      cases rn with
      | nil=>simp at lr; omega
      | cons k0 rn'=>exact ⟨k0,rn',rfl⟩
     refine ⟨r,_,_,V.int (k0:Nat),rfl,rfl,SqL.of hr3,atI_nat (j:=0) (by rw [ec]; rfl),rfl,?_⟩
     by_cases c2:k0=0
     · rw [if_neg (by simp [c2])]
       have h3d1:H3 d1=some (.lst (as.map V.ref)):=s3 _ _ (s2 _ _ hd1)
       have road:∀ k,k∈rn→∃ a,atI (as.map V.ref) ((k:Nat):Int)=some (.ref a)∧H3 a=some (.tup [.int (stR ps k:Nat),.int (enR n ps k:Nat)]):=fun k hk=>by
        have hkl:=rlt k hk
        obtain ⟨a,ha,hH⟩:=N.ts.get' (i:=k) (q:=ps[k]) (by simp [hkl])
        refine ⟨a,atI_nat (by rw [List.getElem?_map,ha]; rfl),?_⟩
        have g:ps.getD k (0,0)=ps[k]:=by rw [List.getD_eq_getElem?_getD]; simp [hkl]
        have e1:ps[k].1=((stR ps k:Nat):Int):=by rw [(stR_cast hends hkl).1,g]
        have e2:ps[k].2=((enR n ps k:Nat):Int):=by
         rw [enR_in hkl,g]
         have:=ends_in hends (List.getElem_mem hkl)
         omega
        have:=s13 _ _ hH
        unfold pairO at this
        rw [e1,e2] at this
        exact this
       refine ⟨⟨_,SqL.of hr3⟩,blk_list (xs:=nats rn) (fun i ys σ H'=>∃ u,σ=[u,some (.ref d1)]∧H'=H3∧ys=nats ((rn.take i).map (stR ps))) (by rw [nats_len]; exact small_le (by omega)) ⟨none,rfl,rfl,rfl⟩ ?_ ?_ ?_⟩
       · rintro i ys σ H4 hi ⟨u,rfl,rfl,rfl⟩
         exact ⟨SqL.of hr3,by rw [nats_len]; simp; omega⟩
       · rintro bk i y ys σ H4 hy ⟨u,rfl,rfl,rfl⟩
         obtain ⟨k,hk,rfl⟩:=nats_get hy
         obtain ⟨a,ia,hH⟩:=road k (List.mem_of_getElem? hk)
         open_k with [rIxL,rIxT]
         refine ⟨_,SqL.of h3d1,_,ia,a,rfl,_,SqT.of hH,_,atI_nat (j:=0) rfl,?_⟩
         rw [List.take_add_one,hk,List.map_append,nats_append]
         rfl
       · rintro ys σ H4 D1 ⟨u,rfl,rfl,rfl⟩ hD1
         rw [nats_len,List.take_length]
         have s4:Same H4 (upd H4 D1 (.lst (nats (rn.map (stR ps))))):=Same.new hD1
         have hD:upd H4 D1 (.lst (nats (rn.map (stR ps)))) D1=some (.lst (nats (rn.map (stR ps)))):=upd_same
         generalize upd H4 D1 (.lst (nats (rn.map (stR ps))))=H5 at *
         refine ⟨⟨_,SqL.of (s4 _ _ hr3)⟩,blk_list (xs:=nats rn) (fun i ys σ H'=>∃ u,σ=[u,some (.ref d1)]∧H'=H5∧ys=nats ((rn.take i).map (enR n ps))) (by rw [nats_len]; exact small_le (by omega)) ⟨none,rfl,rfl,rfl⟩ ?_ ?_ ?_⟩
         · rintro i ys σ H6 hi ⟨u,rfl,rfl,rfl⟩
           exact ⟨SqL.of (s4 _ _ hr3),by rw [nats_len]; simp; omega⟩
         · rintro bk i y ys σ H6 hy ⟨u,rfl,rfl,rfl⟩
           obtain ⟨k,hk,rfl⟩:=nats_get hy
           obtain ⟨a,ia,hH⟩:=road k (List.mem_of_getElem? hk)
           open_k with [rIxL,rIxT]
           refine ⟨_,SqL.of (s4 _ _ h3d1),_,ia,a,rfl,_,SqT.of (s4 _ _ hH),_,atI_nat (j:=1) rfl,?_⟩
           rw [List.take_add_one,hk,List.map_append,nats_append]
           rfl
         · rintro ys σ H6 D2 ⟨u,rfl,rfl,rfl⟩ hD2
           rw [nats_len,List.take_length]
           have s6:Same H6 (upd H6 D2 (.lst (nats (rn.map (enR n ps))))):=Same.new hD2
           have hD2':upd H6 D2 (.lst (nats (rn.map (enR n ps)))) D2=some (.lst (nats (rn.map (enR n ps)))):=upd_same
           generalize upd H6 D2 (.lst (nats (rn.map (enR n ps))))=H7 at *
           have hD7:=s6 _ _ hD
           have ls:1≤(nats (rn.map (stR ps))).length:=by rw [nats_len,List.length_map]; omega
           refine ⟨D1,_,rfl,SqL.of hD7,fun e1 fe1=>?_⟩
           have c1':=cutV_drop (nats (rn.map (stR ps))) 1 ls
           have c2':=cutV_take (nats (rn.map (stR ps))) 1 ls
           rw [show ((1:Nat):Int)=(1:Int) from rfl] at c1' c2'
           rw [c1']
           refine ⟨D1,_,rfl,SqL.of (upd_old hD7 fe1),fun e2 fe2=>?_⟩
           rw [c2']
           refine ⟨e1,e2,_,_,rfl,rfl,upd_old upd_same fe2,upd_same,by rw [List.length_drop,List.length_take,nats_len,List.length_map]; exact small_le (by omega),fun e3 fe3=>?_⟩
           have hD27:upd (upd (upd H7 e1 (.lst ((nats (rn.map (stR ps))).drop 1))) e2 (.lst ((nats (rn.map (stR ps))).take 1))) e3 (.lst ((nats (rn.map (stR ps))).drop 1++(nats (rn.map (stR ps))).take 1)) D2=some (.lst (nats (rn.map (enR n ps)))):=upd_old (upd_old (upd_old hD2' fe1) fe2) fe3
           have er:(nats (rn.map (stR ps))).drop 1++(nats (rn.map (stR ps))).take 1=((((rn.map (stR ps)).drop 1++(rn.map (stR ps)).take 1)).map fun (k:Nat)=>(k:Int)).map V.int:=by
            unfold nats
            rw [← List.map_drop,← List.map_take,← List.map_append,List.map_map]
            rfl
           have el:nats (rn.map (enR n ps))=((rn.map (enR n ps)).map fun (k:Nat)=>(k:Int)).map V.int:=nats_int _
           refine ⟨D2,e3,_,_,rfl,rfl,Or.inl ⟨SqL.of hD27,SqL.of upd_same⟩,by rw [el]; exact flat_ints _,by rw [er]; exact flat_ints _,?_⟩
           refine q _ _ ?_ ?_
           · exact (((((s13.trans s4).trans s6).upd' fe1).upd' fe2).upd' fe3)
           · rw [if_neg (by simp),el,er,eqVs_int_iff,decide_eq_true_eq]
             have inj:∀ a b:List Nat,a.map (fun (k:Nat)=>(k:Int))=b.map (fun (k:Nat)=>(k:Int))→a=b:=fun a b h=>by
              have:=congrArg (List.map Int.toNat) h
              rw [List.map_map,List.map_map] at this
              simpa [Function.comp_def] using this
             constructor
             · intro h
               exact ⟨rn,rfl,hrn,by rw [ec,c2]; rfl,inj _ _ h⟩
             · rintro ⟨rn2,e1',_,_,e4⟩
               have:rn2=rn:=(inj _ _ e1').symm
               subst this
               rw [e4]
     · rw [if_pos (by simp; omega)]
       refine q false H3 s13 ⟨(fun z=>by cases z),fun ⟨rn2,e1,_,e3,_⟩=>?_⟩
       have e4:rn2=rn:=by
        have:=congrArg (List.map Int.toNat) e1
        rw [List.map_map,List.map_map] at this
        simpa [Function.comp_def] using this.symm
       rw [e4,ec] at e3
       simp at e3
       exact absurd e3 c2
   · rw [if_pos rfl,eqVs_int_iff,decide_eq_false c1,if_pos (by simp)]
     refine q false H3 s13 ⟨(fun z=>by cases z),fun ⟨rn,e1,e2,_⟩=>?_⟩
     exact absurd (key.mpr (by rw [e1]; exact e2.map _)) c1
end
end Rb
namespace Rb
open PySem L2
section
variable {CX:CXT} {P:Program} {w:World} {K:PySem.W.Frag} {mg:Str→Option Value} {base:Heap} {t:Adr}
theorem seqIx {j n:Nat} (h:j < n):seqIndex? ((j:Nat):Int) n=some j:=by
 exact (ixN_seq (by unfold ixN; rw [if_pos (by omega),if_pos (by omega)]; simp)).1
theorem erase_map {α β:Type} (f:α→β):∀ (l:List α) (i:Nat),(l.map f).eraseIdx i=(l.eraseIdx i).map f
 | [],_=>rfl
 | _ :: _,0=>rfl
 | x :: l,i+1=>by
  show f x :: (l.map f).eraseIdx i=f x :: (l.eraseIdx i).map f
  rw [erase_map f l i]
def PvOA (H:Hp) (a dl do_:Addr) (free:List Nat) (num:Nat) (i:Nat) (σ:St) (H':Hp):Prop:=∃ (v:Option V) (left ord:List Nat) (m:Nat),σ=[some (.ref a),some (.int m),some (.ref dl),some (.ref do_),v]∧Same H H'∧H' dl=some (.lst (nats left))∧H' do_=some (.lst (nats ord))∧left.length=free.length - i∧ord.length=i∧ord++Mx.orderAt (free.length - i) left m=Mx.orderAt free.length free num
def sp_order_at (K:PySem.W.Frag):Sp:=fun vs H Q _=>∃ (a:Addr) (free:List Nat) (num:Nat),vs=[.ref a,.int num]∧SqL K H a (nats free)∧free.length≤64∧∀ (d:Addr) (H':Hp),Same H H'→H d=none→H' d=some (.lst (nats (Mx.orderAt free.length free num)))→Q (.ref d) H'
theorem ok_q1 (c0:NoX CX) (T:Txt K mg t):FnOk P w K mg base CX 1 t.f_q1 t.d_q1 ["free","number"] (sp_order_at K):=by
 refine T.F_q1.okX sc_q1 (fun vs H Q E h=>?_) (fun cdv A outer s H vs Q E hr h=>?_)
 · obtain ⟨a,free,num,rfl,_⟩:=h
   rfl
 · obtain ⟨a,free,num,rfl,ha,h64,q⟩:=h
   refine ⟨_,(pss_cons (ps_set (i:=2) sc_q1.nd (by rfl) (Or.inl rfl) (pe_callTy call_list_of (by rfl) T.n_list (by decide +kernel:bootBuiltins "list"=some (.type "list")) (pa_cons (pv 0) pa_nil)))
 (pss_cons (ps_set (i:=3) sc_q1.nd (by rfl) (Or.inl rfl) (pe_lst pa_nil))
 (pss_cons (ps_for PassesOwn.never (by rfl) (pi_rangeD (by rfl) T.n_range (pa_cons (pe_callB call_len (by rfl) T.n_len (by decide +kernel:bootBuiltins "len"=some (.builtin "len")) (pa_cons (pv 0) pa_nil)) (pa_cons pe_int (pa_cons (pe_un un_neg pe_int) pa_nil)))) (pg_name (i:=4) sc_q1.nd (by rfl) (Or.inl rfl))
 (pss_cons (ps_expr (pe_bm PySem.F.plainAttrs_list PySem.F.slot_list_append PySem.F.type_list_append mt_append (pv 3) (pa_cons (pe_bm PySem.F.plainAttrs_list PySem.F.slot_list_pop PySem.F.type_list_pop mt_popAt (pv 2) (pa_cons (pe_op op_mod (pv 1) (pv 4)) pa_nil)) pa_nil)))
 (pss_one (ps_aug (i:=1) sc_q1.nd (by rfl) (Or.inl rfl) (pv 4) iop_fdiv))))
 (pss_one (ps_ret (pv 3)))))),?_⟩
   open_k with [iRngD,rPopAt,tAug]
   refine ⟨_,Or.inl ha,fun dl fdl=>⟨by decide,fun do_ fdo=>?_⟩⟩
   have s1:Same H (upd (upd H dl (.lst (nats free))) do_ (.lst [])):=(Same.new fdl).trans (Same.new fdo)
   have h1:upd (upd H dl (.lst (nats free))) do_ (.lst []) dl=some (.lst (nats free)):=upd_old upd_same fdo
   have h2:upd (upd H dl (.lst (nats free))) do_ (.lst []) do_=some (.lst []):=upd_same
   have nd:dl ≠ do_:=ne_of_none upd_same fdo
   have fdo':H do_=none:=(Same.new fdl).free fdo
   generalize upd (upd H dl (.lst (nats free))) do_ (.lst [])=H1 at *
   refine ⟨_,lenL (s1.seq ha),?_⟩
   rw [nats_len]
   refine ⟨by omega,by omega,by decide,by decide,forb_down (PvOA H a dl do_ free num) ⟨none,free,[],num,rfl,s1,h1,h2,by omega,rfl,rfl⟩ ?_ ?_⟩
   · rintro i σ H2 hi ⟨v,left,ord,m,rfl,s2,hl,ho,ll,lo,e⟩
     have hi':i < free.length:=by omega
     obtain ⟨k,hk⟩:∃ k,free.length - i=k+1:=⟨free.length - i - 1,by omega⟩
     have ek:(free.length:Int) - (i:Int)=((k+1:Nat):Int):=by omega
     rw [ek]
     open_k with [rPopAt,rAppend,tAug]
     have hr:m % (k+1) < left.length:=by rw [ll,hk]; exact Nat.mod_lt _ (Nat.succ_pos _)
     have hr64:m % (k+1) < 64:=by omega
     have er:(m:Int) % ((k+1:Nat):Int)=((m % (k+1):Nat):Int):=by rw [Int.natCast_emod]
     have ed:(m:Int) / ((k+1:Nat):Int)=((m / (k+1):Nat):Int):=by rw [Int.natCast_ediv]
     have eg:(nats left)[m % (k+1)]?=some (.int ((left.getD (m % (k+1)) 0:Nat):Int)):=by
      unfold nats
      rw [List.getElem?_map,List.getElem?_eq_getElem hr,List.getD_eq_getElem?_getD,List.getElem?_eq_getElem hr]
      rfl
     rw [er,ed]
     refine ⟨Or.inl ⟨rfl,_,SqL.of ho⟩,Or.inl ⟨rfl,_,SqL.of hl⟩,by omega,_,hl,by omega,by omega,m % (k+1),seqIx (by rw [nats_len]; exact hr),_,eg,_,by rw [upd_ne nd.symm]; exact ho,?_,⟨by omega,by omega⟩,?_⟩
     · rw [nats_len,lo]
       exact Nat.lt_of_lt_of_le (show i < 1000 by omega) (by decide)
     have hs:Same H (upd (upd H2 dl (.lst ((nats left).eraseIdx (m % (k+1))))) do_ (.lst (nats ord++[.int ((left.getD (m % (k+1)) 0:Nat):Int)]))):=fun b o e'=>by
      rw [upd_ne (ne_of_none e' fdo'),upd_ne (ne_of_none e' fdl)]
      exact s2 _ _ e'
     refine ⟨_,left.eraseIdx (m % (k+1)),ord++[left.getD (m % (k+1)) 0],m / (k+1),rfl,hs,?_,?_,?_,by simp [lo],?_⟩
     · rw [upd_ne nd,upd_same]
       unfold nats
       rw [erase_map]
     · rw [upd_same]
       simp [nats]
     · rw [List.length_eraseIdx,if_pos hr]
       omega
     · rw [← e,hk]
       have:free.length - (i+1)=k:=by omega
       rw [this,List.append_assoc]
       rfl
   · rintro σ H2 ⟨v,left,ord,m,rfl,s2,hl,ho,ll,lo,e⟩
     open_k with []
     have e0:free.length - ((free.length:Int) - 0).toNat=0:=by omega
     rw [e0] at e
     refine q do_ H2 s2 fdo' ?_
     rw [ho,← e]
     simp [Mx.orderAt]
def PvON (H:Hp) (a dl:Addr) (left0 order:List Nat) (i:Nat) (σ:St) (H':Hp):Prop:=∃ (v w:Option V) (left:List Nat) (num f:Nat),σ=[some (.ref a),some (.ref dl),some (.int num),some (.int f),v,w]∧Same H H'∧H' dl=some (.lst (nats left))∧(order.drop i).Perm left∧left.Nodup∧num+f * Mx.orderNum left (order.drop i)=Mx.orderNum left0 order∧f≤64 ^ i
theorem sorted_uniq {ns:List Int} {left order:List Nat} (h1:ns.Perm (order.map fun (k:Nat)=>(k:Int))) (h2:ns.Pairwise (· ≤ ·)) (hp:order.Perm left) (hs:left.Pairwise (· < ·)):ns=left.map fun (k:Nat)=>(k:Int):=by
 refine List.Perm.eq_of_pairwise (fun a b _ _ x y=>Int.le_antisymm x y) h2 ?_ (h1.trans (hp.map _))
 refine List.Pairwise.map _ (fun a b h=>?_) hs
 omega
theorem idx_first:∀ (l:List Nat) (x i:Nat),i < l.idxOf x→l[i]? ≠ some x
 | [],x,i,h=>by simp
 | y :: l,x,i,h=>by
  rw [List.idxOf_cons] at h
  by_cases c:y=x
  · rw [c] at h
    simp at h
  · have cb:(y == x)=false:=by simpa using c
    rw [cb] at h
    cases i with
    | zero =>
     intro z
     exact c (Option.some.inj z)
    | succ i=>exact idx_first l x i (by simpa using h)
theorem bigF {f i:Nat} (hf:f≤64 ^ i) (hi:i≤64):Big ((f:Nat):Int):=big_pow (Nat.lt_of_le_of_lt (Nat.le_trans hf (Nat.pow_le_pow_right (by decide) hi)) (by decide))
theorem idx_facts {left:List Nat} {x:Nat} (h:x∈left):((left.map fun (k:Nat)=>(k:Int)))[left.idxOf x]?=some (x:Int)∧∀ i,i < left.idxOf x→(left.map fun (k:Nat)=>(k:Int))[i]? ≠ some (x:Int):=by
 have hi:left.idxOf x < left.length:=List.idxOf_lt_length_iff.mpr h
 constructor
 · rw [List.getElem?_map,List.getElem?_eq_getElem hi]
   simp
 · intro i hlt e
   rw [List.getElem?_map,List.getElem?_eq_getElem (by omega)] at e
   have e2:left[i]'(by omega)=x:=by
    have:=Option.some.inj e
    exact Int.ofNat.inj this
   exact idx_first left x i hlt (by rw [List.getElem?_eq_getElem (by omega),e2])
def sp_order_number:Sp:=fun vs H Q _=>∃ (a:Addr) (order left:List Nat),vs=[.ref a]∧H a=some (.lst (nats order))∧order.length≤64∧order.Perm left∧left.Pairwise (· < ·)∧∀ H',Same H H'→Q (.int (Mx.orderNum left order:Nat)) H'
theorem ok_r (c0:NoX CX) (T:Txt K mg t):FnOk P w K mg base CX 1 t.f_r t.d_r ["order"] sp_order_number:=by
 refine T.F_r.okX sc_r (fun vs H Q E h=>?_) (fun cdv A outer s H vs Q E hr h=>?_)
 · obtain ⟨a,order,left,rfl,_⟩:=h
   rfl
 · obtain ⟨a,order,left,rfl,ha,h64,hp,hs,q⟩:=h
   have em:∀ l:List Nat,nats l=(l.map fun (k:Nat)=>(k:Int)).map V.int:=fun l=>by simp [nats]
   refine ⟨_,(pss_cons (ps_set (i:=1) sc_r.nd (by rfl) (Or.inl rfl) (pe_callB Srt.call_sortedN (by rfl) T.n_sorted (by decide +kernel:bootBuiltins "sorted"=some (.builtin "sorted")) (pa_cons (pv 0) pa_nil)))
 (pss_cons (ps_set (i:=2) sc_r.nd (by rfl) (Or.inl rfl) pe_int)
 (pss_cons (ps_set (i:=3) sc_r.nd (by rfl) (Or.inl rfl) pe_int)
 (pss_cons (ps_for PassesOwn.never (by rfl) (pi_list (pv 0)) (pg_name (i:=4) sc_r.nd (by rfl) (Or.inl rfl))
 (pss_cons (ps_set (i:=5) sc_r.nd (by rfl) (Or.inl rfl) (pe_bm PySem.F.plainAttrs_list PySem.F.slot_list_index PySem.F.type_list_index mt_index (pv 1) (pa_cons (pv 4) pa_nil)))
 (pss_cons (ps_aug (i:=2) sc_r.nd (by rfl) (Or.inl rfl) (pe_op op_mulB (pv 3) (pv 5)) iop_add)
 (pss_cons (ps_aug (i:=3) sc_r.nd (by rfl) (Or.inl rfl) (pe_callB call_len (by rfl) T.n_len (by decide +kernel:bootBuiltins "len"=some (.builtin "len")) (pa_cons (pv 1) pa_nil)) iop_mulB)
 (pss_one (ps_expr (pe_bm PySem.F.plainAttrs_list PySem.F.slot_list_pop PySem.F.type_list_pop mt_popAt (pv 1) (pa_cons (pv 5) pa_nil))))))))
 (pss_one (ps_ret (pv 2))))))),?_⟩
   open_k with [tAug,rPopAt,rIndex]
   refine ⟨_,by rw [← em]; exact SqL.of ha,by rw [List.length_map]; omega,fun dl ns fdl h1 h2=>?_⟩
   have en:=sorted_uniq h1 h2 hp hs
   subst en
   rw [← em]
   have s1:Same H (upd H dl (.lst (nats left))):=Same.new fdl
   have hd1:upd H dl (.lst (nats left)) dl=some (.lst (nats left)):=upd_same
   generalize upd H dl (.lst (nats left))=H1 at *
   refine ⟨⟨_,SqL.of (s1 _ _ ha)⟩,forb_list (xs:=nats order) (PvON H a dl left order) ⟨none,none,left,0,1,rfl,s1,hd1,hp,hs.imp (fun h=>Nat.ne_of_lt h),by simp,by simp⟩ (fun i σ H2 hi ⟨_,_,_,_,_,_,s2,_⟩=>SqL.of (s2 _ _ ha)) ?_ ?_⟩
   · rintro i y σ H2 hy ⟨v,w',l2,num,f,rfl,s2,hd2,hp2,hn2,e2,hf⟩
     obtain ⟨x,hx,rfl⟩:∃ x:Nat,order[i]?=some x∧y=.int x:=by
      unfold nats at hy
      rw [List.getElem?_map] at hy
      cases hx:order[i]? with
      | none=>rw [hx] at hy; cases hy
      | some x=>rw [hx] at hy; exact ⟨x,rfl,(Option.some.inj hy).symm⟩
     have hi:i < order.length:=(List.getElem?_eq_some_iff.mp hx).1
     have ed:order.drop i=x :: order.drop (i+1):=by
      rw [List.drop_eq_getElem_cons hi]
      congr 1
      exact (List.getElem?_eq_some_iff.mp hx).2
     have hm:x∈l2:=hp2.subset (by rw [ed]; exact List.mem_cons_self)
     have hix:l2.idxOf x < l2.length:=List.idxOf_lt_length_iff.mpr hm
     obtain ⟨x1,x2⟩:=idx_facts hm
     have ll:l2.length=order.length - i:=by rw [← hp2.length_eq,List.length_drop]
     open_k with [tAug,rPopAt,rIndex]
     have bi:Big ((l2.idxOf x:Nat):Int):=big_pow (Nat.lt_of_lt_of_le (show l2.idxOf x < 2 ^ 10 by omega) (Nat.pow_le_pow_right (by decide) (by decide)))
     have bl:Big ((l2.length:Nat):Int):=big_pow (Nat.lt_of_lt_of_le (show l2.length < 2 ^ 10 by omega) (Nat.pow_le_pow_right (by decide) (by decide)))
     have bf:=bigF hf (by omega)
     have ev:(nats l2)[l2.idxOf x]?=some (.int (x:Int)):=by
      rw [em,List.getElem?_map,x1]
      rfl
     refine ⟨Or.inl ⟨rfl,_,SqL.of hd2⟩,_,by rw [← em]; exact hd2,_,x1,x2,⟨bf,bi⟩,_,lenL (SqL.of hd2),⟨bf,by rw [nats_len]; exact bl⟩,Or.inl ⟨rfl,_,SqL.of hd2⟩,_,hd2,by omega,by omega,_,seqIx (by rw [nats_len]; exact hix),⟨_,ev⟩,?_⟩
     have eN:((num:Int)+(f:Int) * ((l2.idxOf x:Nat):Int))=((num+f * l2.idxOf x:Nat):Int):=by push_cast; rfl
     have eF:((f:Int) * (((nats l2).length:Nat):Int))=((f * l2.length:Nat):Int):=by rw [nats_len]; push_cast; rfl
     rw [eN,eF]
     refine ⟨_,_,l2.eraseIdx (l2.idxOf x),num+f * l2.idxOf x,f * l2.length,rfl,fun b o e=>?_,?_,?_,hn2.sublist (List.eraseIdx_sublist _ _),?_,?_⟩
     · rw [upd_ne (ne_of_none e fdl)]
       exact s2 _ _ e
     · rw [upd_same]
       unfold nats
       rw [erase_map]
     · rw [ed] at hp2
       have:=Mx.erase_perm hix
       have hg:l2.getD (l2.idxOf x) 0=x:=by
        rw [List.getD_eq_getElem?_getD]
        simp [hix]
       rw [hg] at this
       exact (List.perm_cons x).mp (hp2.trans this.symm)
     · rw [← e2,ed]
       show _=num+f * (l2.idxOf x+l2.length * Mx.orderNum (l2.eraseIdx (l2.idxOf x)) (order.drop (i+1)))
       rw [Nat.mul_add,← Nat.mul_assoc,← Nat.add_assoc]
     · rw [Nat.pow_succ]
       exact Nat.mul_le_mul hf (by omega)
   · rintro σ H2 ⟨v,w',l2,num,f,rfl,s2,hd2,hp2,hn2,e2,hf⟩
     rw [nats_len,List.drop_length] at e2
     have e3:num=Mx.orderNum left order:=by
      rw [← e2]
      show num=num+f * Mx.orderNum l2 []
      have:Mx.orderNum l2 []=0:=by cases l2 <;> rfl
      rw [this]
      omega
     open_k with []
     rw [e3]
     exact q _ s2
def optV:Option Nat→V
 | none=>.non
 | some c=>.int (c:Int)
def exsP (ps : List Pr) (p x : Nat) : List Nat := (exitsOf ps p).filter fun j => j != x
def ordP (ps:List Pr) (p:Nat) (o:Option Nat) (num:Nat):List Nat:=match o with
 | none=>0 :: Mx.orderAt (exsP ps p 0).length (exsP ps p 0) num
 | some c=>Mx.orderAt (exsP ps p c).length (exsP ps p c) num++[c]
def sp_exits_in_order (C:Addr):Sp:=fun vs H Q _=>∃ (x l:Addr) (as:List Addr) (n p num:Nat) (ps:List Pr) (o:Option Nat),vs=[.ref x,.int p,optV o,.int num]∧NetAt C H x l as n ps∧p < n∧∀ (d:Addr) (H':Hp),Same H H'→H d=none→H' d=some (.lst (nats (ordP ps p o num)))→Q (.ref d) H'
theorem ok_j (c0:NoX CX) (T:Txt K mg t):FnOk P w K mg base CX 4 t.f_j t.d_j ["net","place","last","number"] (sp_exits_in_order t.C_Net):=by
 refine T.F_j.okX sc_j (fun vs H Q E h=>?_) (fun cdv A outer s H vs Q E hr h=>?_)
 · obtain ⟨x,l,as,n,p,num,ps,o,rfl,_⟩:=h
   rfl
 · obtain ⟨x,l,as,n,p,num,ps,o,rfl,N,hp,q⟩:=h
   obtain ⟨dx,ex⟩:=N.ob
   obtain ⟨⟨n1,n2⟩,⟨l1,l2⟩,hends,hex⟩:=netOk_parts N.ok
   refine ⟨_,(pss_cons (ps_if (pt_cmpR op_isN (pv 2) pe_non (nomark _))
 (pss_one (ps_ret (pe_op op_cat (pe_lst (pa_cons pe_int pa_nil)) (pe_call (ok_q1 c0 T) (hr.mono (by decide)) (by rfl) T.m_q1 T.F_q1.kp T.b_q1 .nil (pass1 c0) (pa_cons (pe_comp (own:=(["road"]:List Str)) (fr:=([]:List Str)) (ix:=([]:List Nat)) (by rfl) ⟨by rfl,by decide +kernel,by rfl,by rfl,by rfl⟩ (pi_list (pe_meth (pv 0) T.cl_Net T.M_f1 (ok_f1 c0 T) (hr.mono (by decide)) T.b_f1 .nil (pass1 c0) (pa_cons (pv 1) pa_nil))) (fun _=>(pg_name (i:=0) (show List.Nodup (["road"]:List Str) by decide +kernel) (by rfl) (Or.inl rfl))) (fun _ hB=>(pts_one (pt_cmpR op_ne (pv 0) pe_int (nomark _)))) (fun _ hB=>(pv 0))) (pa_cons (pv 3) pa_nil))))))
 pss_nil)
 (pss_one (ps_ret (pe_op op_cat (pe_call (ok_q1 c0 T) (hr.mono (by decide)) (by rfl) T.m_q1 T.F_q1.kp T.b_q1 .nil (pass1 c0) (pa_cons (pe_comp (own:=(["road"]:List Str)) (fr:=(["last"]:List Str)) (ix:=([2]:List Nat)) (by rfl) ⟨by rfl,by decide +kernel,by rfl,by rfl,by rfl⟩ (pi_list (pe_meth (pv 0) T.cl_Net T.M_f1 (ok_f1 c0 T) (hr.mono (by decide)) T.b_f1 .nil (pass1 c0) (pa_cons (pv 1) pa_nil))) (fun _=>(pg_name (i:=0) (show List.Nodup (["road","last"]:List Str) by decide +kernel) (by rfl) (Or.inl rfl))) (fun _ hB=>(pts_one (pt_cmpR op_ne (pv 0) (pv 1) (nomark _)))) (fun _ hB=>(pv 0))) (pa_cons (pv 3) pa_nil))) (pe_lst (pa_cons (pv 2) pa_nil)))))),?_⟩
   have le:(exitsOf ps p).length≤64:=Nat.le_trans (exits_len ps p) l2
   have lf:∀ x,(exsP ps p x).length≤64:=fun x=>Nat.le_trans (List.length_filter_le _ _) le
   have wp:within (p:Int) n=true:=by rw [within_iff]; omega
   have step : ∀ (x i k : Nat), (exitsOf ps p)[i]? = some k → nats (((exitsOf ps p).take (i + 1)).filter fun j => j != x) = nats (((exitsOf ps p).take i).filter fun j => j != x) ++ if k = x then [] else [V.int (k : Int)] := fun x i k hk => by
    rw [List.take_add_one,hk,List.filter_append,nats_append]
    by_cases c:k=x <;> simp [c,nats]
   cases o with
   | none =>
    simp only [optV]
    open_k with [rCat]
    rw [if_pos (by simp)]
    refine ⟨by decide,fun d0 f0=>?_⟩
    have s0:Same H (upd H d0 (.lst [.int 0])):=Same.new f0
    have h0:upd H d0 (.lst [.int 0]) d0=some (.lst [.int 0]):=upd_same
    generalize upd H d0 (.lst [.int 0])=H0 at *
    refine ⟨_,_,s0 _ _ ex,nfl_no _ _ (by decide +kernel) (by decide +kernel),x,l,as,n,ps,p,rfl,N.same s0,wp,fun d1 H1 s1 fd1 hd1=>⟨d1,rfl,⟨_,SqL.of hd1⟩,?_⟩⟩
    refine blk_list (xs := nats (exitsOf ps p)) (fun i ys σ H' => ∃ u, σ = [u] ∧ H' = H1 ∧ ys = nats (((exitsOf ps p).take i).filter fun j => j != 0)) (by rw [nats_len]; exact small_le (by omega)) ⟨none, rfl, rfl, rfl⟩ ?_ ?_ ?_
    · rintro i ys σ H2 hi ⟨u,rfl,rfl,rfl⟩
      refine ⟨SqL.of hd1,?_⟩
      rw [nats_len]
      exact Nat.le_trans (List.length_filter_le _ _) (by rw [List.length_take]; omega)
    · rintro bk i y ys σ H2 hy ⟨u,rfl,rfl,rfl⟩
      obtain ⟨k,hk,rfl⟩:=nats_get hy
      open_k with []
      refine ⟨rfl,?_⟩
      rw [step 0 i k hk]
      by_cases c:k=0
      · rw [if_neg (by simp [c]),if_pos c]
        simp
      · rw [if_pos (by simp; omega),if_neg c]
    · rintro ys σ H2 D ⟨u,rfl,rfl,rfl⟩ hD
      rw [nats_len,List.take_length]
      have s2:Same H2 (upd H2 D (.lst (nats (exsP ps p 0)))):=Same.new hD
      have h2:upd H2 D (.lst (nats (exsP ps p 0))) D=some (.lst (nats (exsP ps p 0))):=upd_same
      show sp_order_at K [.ref D,.int num] (upd H2 D (.lst (nats (exsP ps p 0)))) _ _
      generalize upd H2 D (.lst (nats (exsP ps p 0)))=H9 at *
      refine ⟨D,exsP ps p 0,num,rfl,SqL.of h2,lf 0,fun d3 H3 s3 fd3 hd3=>⟨d3,rfl,_,s3 _ _ (s2 _ _ (s1 _ _ h0)),_,hd3,?_,fun d4 fd4=>?_⟩⟩
      · rw [nats_len,(Mx.order_perm _ (exsP ps p 0) num rfl).length_eq]
        exact small_le (by have:=lf 0; simp; omega)
      · have s03:Same H H3:=((s0.trans s1).trans s2).trans s3
        refine q d4 _ (s03.upd' fd4) (s03.free fd4) ?_
        rw [upd_same]
        rfl
   | some c =>
    simp only [optV]
    open_k with [rCat]
    rw [if_neg (by simp)]
    refine ⟨_,_,ex,nfl_no _ _ (by decide +kernel) (by decide +kernel),x,l,as,n,ps,p,rfl,N,wp,fun d1 H1 s1 fd1 hd1=>⟨d1,rfl,⟨_,SqL.of hd1⟩,?_⟩⟩
    refine blk_list (xs := nats (exitsOf ps p)) (fun i ys σ H' => ∃ u, σ = [u, some (.int c)] ∧ H' = H1 ∧ ys = nats (((exitsOf ps p).take i).filter fun j => j != c)) (by rw [nats_len]; exact small_le (by omega)) ⟨none, rfl, rfl, rfl⟩ ?_ ?_ ?_
    · rintro i ys σ H2 hi ⟨u,rfl,rfl,rfl⟩
      refine ⟨SqL.of hd1,?_⟩
      rw [nats_len]
      exact Nat.le_trans (List.length_filter_le _ _) (by rw [List.length_take]; omega)
    · rintro bk i y ys σ H2 hy ⟨u,rfl,rfl,rfl⟩
      obtain ⟨k,hk,rfl⟩:=nats_get hy
      open_k with []
      refine ⟨rfl,?_⟩
      rw [step c i k hk]
      by_cases e:k=c
      · rw [if_neg (by simp [e]),if_pos e]
        simp
      · rw [if_pos (by simp; omega),if_neg e]
    · rintro ys σ H2 D ⟨u,rfl,rfl,rfl⟩ hD
      rw [nats_len,List.take_length]
      have s2:Same H2 (upd H2 D (.lst (nats (exsP ps p c)))):=Same.new hD
      have h2:upd H2 D (.lst (nats (exsP ps p c))) D=some (.lst (nats (exsP ps p c))):=upd_same
      show sp_order_at K [.ref D,.int num] (upd H2 D (.lst (nats (exsP ps p c)))) _ _
      generalize upd H2 D (.lst (nats (exsP ps p c)))=H9 at *
      refine ⟨D,exsP ps p c,num,rfl,SqL.of h2,lf c,fun d3 H3 s3 fd3 hd3=>⟨by decide,fun d0 f0=>?_⟩⟩
      have s4:Same H3 (upd H3 d0 (.lst [.int c])):=Same.new f0
      refine ⟨d3,rfl,_,s4 _ _ hd3,_,upd_same,?_,fun d4 fd4=>?_⟩
      · rw [nats_len,(Mx.order_perm _ (exsP ps p c) num rfl).length_eq]
        exact small_le (by have:=lf c; simp; omega)
      · have s03:=((s1.trans s2).trans s3).trans s4
        refine q d4 _ (s03.upd' fd4) (s03.free fd4) ?_
        rw [upd_same]
        simp [ordP,nats]
end
end Rb
namespace Rb
open PySem L2
section
variable {CX:CXT} {P:Program} {w:World} {K:PySem.W.Frag} {mg:Str→Option Value} {base:Heap} {t:Adr}
def tkV (n:Nat) (tk:Nat→Nat):List V:=(List.range n).map fun q=>V.int ((tk q:Nat):Int)
def sp_walked (C:Addr):Sp:=fun vs H Q _=>∃ (x l od:Addr) (as rs:List Addr) (n:Nat) (ps:List Pr) (o:Nat→List Nat),vs=[.ref x,.ref od]∧NetAt C H x l as n ps∧H od=some (.lst (rs.map V.ref))∧rs.length=n∧(∀ q r,rs[q]?=some r→H r=some (.lst (nats (o q))))∧(∀ q,q < n→∀ y∈o q,y < ps.length)∧(Mx.walk (enR n ps) ps.length (stR ps 0) o).length=ps.length ∧
 ∀ (d:Addr) (H':Hp),Same H H'→H d=none→H' d=some (.lst (nats (Mx.walk (enR n ps) ps.length (stR ps 0) o)))→Q (.ref d) H'
def PvWK (HB:Hp) (x od d1 dt dr:Addr) (n:Nat) (ps:List Pr) (o:Nat→List Nat) (k:Nat) (σ:St) (H':Hp):Prop:=∃ (v:Option V) (p:Nat) (tk:Nat→Nat) (rem:Nat→List Nat) (ring:List Nat),σ=[some (.ref x),some (.ref od),some (.ref d1),some (.ref dt),some (.int p),some (.ref dr),v] ∧
 (∀ b o,HB b=some o→b ≠ dt→b ≠ dr→H' b=some o)∧H' dt=some (.lst (tkV n tk))∧H' dr=some (.lst (nats ring))∧ring.length+k=ps.length∧p < n∧(∀ q,q < n→rem q=(o q).drop (tk q))∧ring++Mx.walk (enR n ps) k p rem=Mx.walk (enR n ps) ps.length (stR ps 0) o∧(Mx.walk (enR n ps) k p rem).length=k
theorem ok_w1 (c0:NoX CX) (T:Txt K mg t):FnOk P w K mg base CX 3 t.f_w1 t.d_w1 ["net","orders"] (sp_walked t.C_Net):=by
 refine T.F_w1.okX sc_w1 (fun vs H Q E h=>?_) (fun cdv A outer s H vs Q E hr h=>?_)
 · obtain ⟨x,l,od,as,rs,n,ps,o,rfl,_⟩:=h
   rfl
 · obtain ⟨x,l,od,as,rs,n,ps,o,rfl,N,hod,hrl,hrs,hlt,hwl,q⟩:=h
   obtain ⟨dx,ex⟩:=N.ob
   obtain ⟨⟨n1,n2⟩,⟨l1,l2⟩,hends,hex⟩:=netOk_parts N.ok
   have la:=N.ts.len
   have lm:(as.map V.ref).length=ps.length:=by rw [List.length_map,la]
   refine ⟨_,(pss_cons (ps_set (i:=2) sc_w1.nd (by rfl) (Or.inl rfl) (pe_meth0 (pv 0) T.cl_Net T.M_e1 (ok_e1 c0 T) (hr.mono (by decide)) T.b_e1 .nil (pass1 c0)))
 (pss_cons (ps_set (i:=3) sc_w1.nd (by rfl) (Or.inl rfl) (pe_op op_rep (pe_lst (pa_cons pe_int pa_nil)) (pe_meth0 (pv 0) T.cl_Net T.M_v (ok_v c0 T) (hr.mono (by decide)) T.b_v .nil (pass1 c0))))
 (pss_cons (ps_set (i:=4) sc_w1.nd (by rfl) (Or.inl rfl) (pe_call (ok_y c0 T) (hr.mono (by decide)) (by rfl) T.m_y T.F_y.kp T.b_y .nil (pass1 c0) (pa_cons (pv 0) pa_nil)))
 (pss_cons (ps_set (i:=5) sc_w1.nd (by rfl) (Or.inl rfl) (pe_lst pa_nil))
 (pss_cons (ps_while PassesOwn.never (pt_cmpR op_lt (pe_callB call_len (by rfl) T.n_len (by decide +kernel:bootBuiltins "len"=some (.builtin "len")) (pa_cons (pv 5) pa_nil)) (pe_callB call_len (by rfl) T.n_len (by decide +kernel:bootBuiltins "len"=some (.builtin "len")) (pa_cons (pv 2) pa_nil)) (nomark _))
 (pss_cons (ps_set (i:=6) sc_w1.nd (by rfl) (Or.inl rfl) (pe_ix ix_list (pe_ix ix_list (pv 1) (pv 4) (fun _ _=>rfl)) (pe_ix ix_list (pv 3) (pv 4) (fun _ _=>rfl)) (fun _ _=>rfl)))
 (pss_cons (ps_augS (pv 3) (pv 4) get_list pe_int iop_add set_list)
 (pss_cons (ps_expr (pe_bm PySem.F.plainAttrs_list PySem.F.slot_list_append PySem.F.type_list_append mt_append (pv 5) (pa_cons (pv 6) pa_nil)))
 (pss_one (ps_set (i:=4) sc_w1.nd (by rfl) (Or.inl rfl) (pe_ix ix_tup (pe_ix ix_list (pv 2) (pv 6) (fun _ _=>rfl)) pe_int (fun _ _=>rfl))))))))
 (pss_one (ps_ret (pv 5)))))))),?_⟩
   open_k with [rRep]
   refine ⟨_,_,ex,nfl_no _ _ (by decide +kernel) (by decide +kernel),x,l,as,n,ps,rfl,N,fun d1 fd1=>?_⟩
   have s1:Same H (upd H d1 (.lst (as.map V.ref))):=Same.new fd1
   have hd1:upd H d1 (.lst (as.map V.ref)) d1=some (.lst (as.map V.ref)):=upd_same
   generalize upd H d1 (.lst (as.map V.ref))=H1 at *
   refine ⟨by decide,fun d2 fd2=>?_⟩
   have s2:Same H1 (upd H1 d2 (.lst [.int 0])):=Same.new fd2
   have hd2:upd H1 d2 (.lst [.int 0]) d2=some (.lst [.int 0]):=upd_same
   generalize upd H1 d2 (.lst [.int 0])=H2 at *
   have s02:=s1.trans s2
   refine ⟨_,_,s02 _ _ ex,nfl_no _ _ (by decide +kernel) (by decide +kernel),x,l,as,n,ps,rfl,N.same s02,n,rfl,_,hd2,by omega,by omega,?_,fun dt fdt=>?_⟩
   · exact small_le (by simp; omega)
   have e0:(List.replicate ((n:Int)).toNat [V.int 0]).flatten=tkV n fun _=>0:=by
    rw [Int.toNat_natCast]
    refine List.ext_getElem? fun i=>?_
    unfold tkV
    rw [List.flatten_replicate_singleton,List.getElem?_replicate,List.getElem?_map]
    by_cases c:i < n
    · rw [if_pos c,List.getElem?_range c]
      rfl
    · rw [if_neg c,List.getElem?_eq_none (by simpa using c)]
      rfl
   rw [e0]
   have s3:Same H2 (upd H2 dt (.lst (tkV n fun _=>0))):=Same.new fdt
   have hd3:upd H2 dt (.lst (tkV n fun _=>0)) dt=some (.lst (tkV n fun _=>0)):=upd_same
   have fdt0:H dt=none:=s02.free fdt
   generalize upd H2 dt (.lst (tkV n fun _=>0))=H3 at *
   have s03:=s02.trans s3
   refine ⟨x,l,as,n,ps,rfl,N.same s03,fun H4 s4=>⟨by decide,fun dr fdr=>?_⟩⟩
   have s04:=s03.trans s4
   have hdt4:=s4 _ _ hd3
   have ndt:dt ≠ dr:=ne_of_none hdt4 fdr
   have fdr0:H dr=none:=s04.free fdr
   have hod4:=s04 _ _ hod
   have hs0:stR ps 0 < n:=(stR_cast hends (by omega)).2
   refine ⟨PvWK H4 x od d1 dt dr n ps o,⟨ps.length,none,stR ps 0,fun _=>0,o,[],rfl,fun b o e _ hb=>by rw [upd_ne hb]; exact e,by rw [upd_ne ndt]; exact hdt4,upd_same,by simp,hs0,fun q _=>rfl,rfl,hwl⟩,?_⟩
   rintro k σ H5 ⟨v,p,tk,rem,ring,rfl,k5,h5t,h5r,hlen,hp,hrem,hw,hwk⟩
   have k05:∀ b o,H b=some o→H5 b=some o:=fun b o e=>k5 b o (s04 _ _ e) (ne_of_none e fdt0) (ne_of_none e fdr0)
   have hd15:H5 d1=some (.lst (as.map V.ref)):=k5 _ _ (s4 _ _ (s3 _ _ (s2 _ _ hd1))) (ne_of_none (s2 _ _ hd1) fdt) (ne_of_none (s4 _ _ (s3 _ _ (s2 _ _ hd1))) fdr)
   have ts5:TupsAt H5 as ps:=N.ts.mono fun b o e=>k05 _ _ e
   open_k with []
   refine ⟨_,lenL (SqL.of h5r),_,lenL (SqL.of hd15),?_⟩
   rw [nats_len,lm]
   by_cases c:0 < k
   · rw [if_pos (decide_eq_true (by omega))]
     obtain ⟨k,rfl⟩:∃ j,k=j+1:=⟨k - 1,by omega⟩
     obtain ⟨y,ys,hy⟩:∃ y ys,rem p=y :: ys:=by
      cases hr:rem p with
      | nil =>
       have:Mx.walk (enR n ps) (k+1) p rem=[]:=by
        show (match rem p with | []=>[] | x :: xs=>x :: Mx.walk (enR n ps) k (enR n ps x) (Mx.putL rem p xs))=[]
        rw [hr]
       rw [this] at hwk
       cases hwk
      | cons y ys=>exact ⟨y,ys,rfl⟩
     have ew:Mx.walk (enR n ps) (k+1) p rem=y :: Mx.walk (enR n ps) k (enR n ps y) (Mx.putL rem p ys):=by
      show (match rem p with | []=>[] | x :: xs=>x :: Mx.walk (enR n ps) k (enR n ps x) (Mx.putL rem p xs))=_
      rw [hy]
     have hdrop:(o p).drop (tk p)=y :: ys:=by rw [← hrem p hp,hy]
     have hyo:(o p)[tk p]?=some y:=by
      have:=congrArg (fun l:List Nat=>l[0]?) hdrop
      rw [List.getElem?_drop] at this
      simpa using this
     have hym:y∈o p:=List.mem_of_getElem? hyo
     have hyl:=hlt p hp y hym
     have hdrop':(o p).drop (tk p+1)=ys:=by
      rw [← List.tail_drop,hdrop]
      rfl
     obtain ⟨r,hr⟩:∃ r,rs[p]?=some r:=⟨rs[p]'(by omega),List.getElem?_eq_getElem (by omega)⟩
     have hr5:=k05 _ _ (hrs p r hr)
     have ir:atI (rs.map V.ref) ((p:Nat):Int)=some (.ref r):=atI_nat (by rw [List.getElem?_map,hr]; rfl)
     have it:atI (tkV n tk) ((p:Nat):Int)=some (.int ((tk p:Nat):Int)):=atI_nat (by unfold tkV; rw [List.getElem?_map,List.getElem?_range hp]; rfl)
     have iy:atI (nats (o p)) ((tk p:Nat):Int)=some (.int ((y:Nat):Int)):=atI_nat (by unfold nats; rw [List.getElem?_map,hyo]; rfl)
     obtain ⟨a1,ha1,hA⟩:=ts5.get' (i:=y) (q:=ps[y]) (by simp [hyl])
     have ia:atI (as.map V.ref) ((y:Nat):Int)=some (.ref a1):=atI_nat (by rw [List.getElem?_map,ha1]; rfl)
     refine ⟨fun σ' H'=>PvWK H4 x od d1 dt dr n ps o k σ' H',fun σ' H' z=>⟨k,by omega,z⟩,?_⟩
     open_k with [rIxL,rIxT,tAugS,rGetN,rSetL,rAppend]
     have nrt:dr ≠ dt:=fun z=>ndt z.symm
     have xp:ixN (tkV n tk).length ((p:Nat):Int)=some p:=by
      unfold ixN tkV
      rw [List.length_map,List.length_range,if_pos (by omega),if_pos (by omega)]
      simp
     refine ⟨_,SqL.of (k05 _ _ hod),_,ir,_,SqL.of h5t,_,it,r,rfl,_,_,rfl,SqL.of hr5,_,iy,_,p,rfl,SqL.of h5t,_,by unfold tkV; rw [List.getElem?_map,List.getElem?_range hp]; rfl,_,rfl,_,h5t,p,xp,?_⟩
     have et:(tkV n tk).set p (V.int ((tk p:Int)+1))=tkV n fun q=>if q=p then tk p+1 else tk q:=by
      unfold tkV
      refine List.ext_getElem? fun i=>?_
      rw [List.getElem?_set,List.getElem?_map,List.getElem?_map,List.length_map,List.length_range]
      by_cases c1:p=i
      · subst c1
        rw [if_pos rfl,if_pos hp,List.getElem?_range hp]
        simp
      · rw [if_neg c1]
        by_cases c2:i < n
        · rw [List.getElem?_range c2]
          have c3:¬ i=p:=fun z=>c1 z.symm
          simp [c3]
        · rw [List.getElem?_eq_none (by simpa using c2)]
          rfl
     rw [et]
     have h6r:upd H5 dt (.lst (tkV n fun q=>if q=p then tk p+1 else tk q)) dr=some (.lst (nats ring)):=by rw [upd_ne nrt]; exact h5r
     have k6:∀ b o,H5 b=some o→b ≠ dt→b ≠ dr→upd (upd H5 dt (.lst (tkV n fun q=>if q=p then tk p+1 else tk q))) dr (.lst (nats ring++[V.int ((y:Nat):Int)])) b=some o:=fun b o e h1 h2=>by
      rw [upd_ne h2,upd_ne h1]
      exact e
     have ne1:∀ b o,H b=some o→b ≠ dt:=fun b o e=>ne_of_none e fdt0
     have ne2:∀ b o,H b=some o→b ≠ dr:=fun b o e=>ne_of_none e fdr0
     have hd16:=k6 _ _ hd15 (ne_of_none (s2 _ _ hd1) fdt) (ne_of_none (s4 _ _ (s3 _ _ (s2 _ _ hd1))) fdr)
     obtain ⟨a0,ha0,hA0⟩:=N.ts.get' (i:=y) (q:=ps[y]) (by simp [hyl])
     have ea:a0=a1:=by rw [ha0] at ha1; exact Option.some.inj ha1
     subst ea
     have hA6:=k6 _ _ hA (ne1 _ _ hA0) (ne2 _ _ hA0)
     have e2:ps[y].2=((enR n ps y:Nat):Int):=by
      have g:ps.getD y (0,0)=ps[y]:=by rw [List.getD_eq_getElem?_getD]; simp [hyl]
      rw [enR_in hyl,g]
      have:=(ends_in hends (List.getElem_mem hyl)).2.1
      omega
     refine ⟨Or.inl ⟨rfl,_,SqL.of h6r⟩,_,h6r,?_,_,_,rfl,SqL.of hd16,_,ia,a0,rfl,_,SqT.of hA6,_,atI_nat (j:=1) rfl,?_⟩
     · rw [nats_len]
       exact Nat.lt_of_lt_of_le (show ring.length < 1000 by omega) (by decide)
     rw [e2]
     refine ⟨_,enR n ps y,fun q=>if q=p then tk p+1 else tk q,Mx.putL rem p ys,ring++[y],rfl,fun b o e h1 h2=>k6 _ _ (k5 b o e h1 h2) h1 h2,?_,?_,by simp; omega,enR_lt hends hyl,fun q hq=>?_,?_,?_⟩
     · rw [upd_ne ndt,upd_same]
     · rw [upd_same]
       simp [nats]
     · unfold Mx.putL
       by_cases c1:q=p
       · simp only [if_pos c1]
         rw [c1,hdrop']
       · simp only [if_neg c1]
         exact hrem q hq
     · rw [← hw,ew,List.append_assoc]
       rfl
     · rw [ew] at hwk
       simpa using hwk
   · have hk:k=0:=by omega
     subst hk
     rw [if_neg (by simp; omega)]
     refine q dr H5 (fun b o e=>k05 _ _ e) fdr0 ?_
     rw [h5r,← hw]
     show _=some (HO.lst (nats (ring++[])))
     rw [List.append_nil]
end
end Rb
namespace Rb
open PySem L2
section
variable {CX:CXT} {P:Program} {w:World} {K:PySem.W.Frag} {mg:Str→Option Value} {base:Heap} {t:Adr}
theorem trees_facts {n g:Nat} {ps:List Pr} (hok:netOk n ps=true) (hg:g < n) {c:List Nat} {i:Nat} (h:(Mx.trs n (enR n ps) (gvL ps (others n g)))[i]?=some c) :
 (∀ j,j < n→j ≠ g→Mx.ofL c j∈exitsOf ps j)∧Mx.leads n g (enR n ps) (Mx.ofL c)∧listT n g ps.length (Mx.ofL c)=c:=by
 obtain ⟨_,_,hends,_⟩:=netOk_parts hok
 have hm:=List.mem_of_getElem? h
 unfold Mx.trs at hm
 rw [List.mem_filter] at hm
 obtain ⟨h1,h2⟩:=hm
 obtain ⟨l1,l2⟩:=Mx.mem_chs.mp h1
 have e1:∀ j,j < n→j ≠ g→Mx.ofL c j∈exitsOf ps j:=fun j hj hne=>by
  have:=l2 j hj
  rw [Nat.zero_add] at this
  unfold gvL at this
  rw [if_pos (others_mem.mpr ⟨hj,hne⟩)] at this
  exact this
 have e2:listT n g ps.length (Mx.ofL c)=c:=by
  refine List.ext_getElem (by simp [listT,l1]) fun j h3 h4=>?_
  have hj:j < n:=by rw [← l1]; exact h4
  have hc:Mx.ofL c j=c[j]:=by simp [Mx.ofL,List.getD_eq_getElem?_getD,h4]
  simp only [listT,List.getElem_map,List.getElem_range]
  by_cases e:j=g
  · rw [if_pos e]
    have:=l2 j hj
    rw [Nat.zero_add] at this
    unfold gvL at this
    rw [if_neg (fun z=>(others_mem.mp z).2 e)] at this
    have h5:c.getD j 0=ps.length:=by simpa using this
    rw [← h5]
    exact hc
  · rw [if_neg e]
    exact hc
 refine ⟨e1,?_,e2⟩
 refine (outs_of hends hg fun j hj hne=>(exits_lt (e1 j hj hne)).1).mp ?_
 rw [e2]
 simpa using h2
theorem gvL_sorted {n g:Nat} {ps:List Pr} (i:Nat):(gvL ps (others n g) i).Pairwise (· < ·):=by
 unfold gvL
 split
 · exact exits_sorted _ _
 · simp
theorem psN_rng {n:Nat} {ps:List Pr}:psN ps=(List.range ps.length).map fun j=>(stR ps j,enR n ps j):=by
 refine List.ext_getElem (by simp [psN]) fun j h1 h2=>?_
 have hj:j < ps.length:=by simpa [psN] using h1
 have g:ps.getD j (0,0)=ps[j]:=by rw [List.getD_eq_getElem?_getD]; simp [hj]
 simp only [psN,List.getElem_map,List.getElem_range,stR]
 rw [enR_in hj,g]
theorem exN_eq {n:Nat} {ps:List Pr} (he:endsOk n ps=true) (p:Nat):Mx.exN ps.length (stR ps) p=exitsOf ps p:=(exits_filter (fun q hq=>(ends_in he hq).1.1) p).symm
theorem degB_eq {n:Nat} {ps:List Pr} (he:endsOk n ps=true):Mx.degB ps.length (stR ps)=degP ps:=by
 funext p
 unfold Mx.degB degP
 rw [exN_eq he]
theorem netN_of {n:Nat} {ps:List Pr} (h:netOk n ps=true):Mx.NetN n ps.length (stR ps) (enR n ps):=by
 obtain ⟨⟨n1,n2⟩,⟨l1,l2⟩,he,hx⟩:=netOk_parts h
 refine ⟨by omega,fun j hj=>(stR_cast he hj).2,fun j hj=>enR_lt he hj,fun p hp=>?_⟩
 obtain ⟨k,hk,e⟩:=exits_some hx hp
 exact ⟨k,hk,by have:=(stR_cast he hk).1; omega⟩
theorem even_of {n:Nat} {ps:List Pr} (he:endsOk n ps=true) (hu:unlikeOf n ps=[]):Mx.Even n ps.length (stR ps) (enR n ps):=fun p hp=>by
 unfold unlikeOf at hu
 rw [List.filter_eq_nil_iff] at hu
 have h:=hu p (List.mem_range.mpr hp)
 obtain ⟨a,b⟩:=count_N (fun q hq=>ends_in he hq) p
 rw [psN_rng (n:=n),List.countP_map] at a b
 have e:(ps.map (·.1)).count (p:Int)=(ps.map (·.2)).count (p:Int):=by simpa using h
 rw [← a,← b] at e
 exact e
def ringP (n:Nat) (ps:List Pr) (c:Nat→Nat) (num:Nat):List Nat:=Mx.ringN ps.length (stR ps) (enR n ps) c num
def lastO (ps:List Pr) (c:Nat→Nat) (p:Nat):Option Nat:=if p=stR ps 0 then none else some (c p)
theorem ord_eq {n:Nat} {ps:List Pr} (he:endsOk n ps=true) (c:Nat→Nat) (num p:Nat):ordP ps p (lastO ps c p) num=Mx.ordr ps.length (stR ps) c num p:=by
 have e:∀ x,exsP ps p x=Mx.freeN ps.length (stR ps) x p:=fun x=>by
  unfold exsP Mx.freeN
  rw [exN_eq he]
 unfold ordP lastO Mx.ordr
 by_cases h:p=stR ps 0
 · rw [if_pos h,if_pos h,e]
 · rw [if_neg h,if_neg h,← e]
theorem tree_opt {n:Nat} {ps:List Pr} {c:Nat→Nat} {p:Nat} (hp:p < n):(treeV n (stR ps 0) c)[p]?=some (optV (lastO ps c p)):=by
 unfold treeV lastO
 rw [List.getElem?_map,List.getElem?_range hp]
 show some (if p=stR ps 0 then V.non else V.int (c p:Nat))=_
 by_cases h:p=stR ps 0
 · rw [if_pos h,if_pos h]
   rfl
 · rw [if_neg h,if_neg h]
   rfl
theorem ringP_is {n:Nat} {ps:List Pr} (hok:netOk n ps=true) (hu:unlikeOf n ps=[]) {c:Nat→Nat} (hc:∀ j,j < n→j ≠ stR ps 0→c j∈exitsOf ps j) (ld:Mx.leads n (stR ps 0) (enR n ps) c) (num:Nat) :
 Mx.isRing ps.length (stR ps) (enR n ps) (ringP n ps c num)∧∀ p,p < n→(ringP n ps c num).filter (fun x=>stR ps x == p)=Mx.ordr ps.length (stR ps) c (num / Mx.prodTo (degP ps) p) p:=by
 obtain ⟨_,_,he,_⟩:=netOk_parts hok
 have:=Mx.ring_of (netN_of hok) (even_of he hu) (c:=c) (fun p hp hne=>by rw [exN_eq he]; exact hc p hp hne) ld num
 rw [degB_eq he] at this
 exact this
theorem degP_pos (ps:List Pr) (p:Nat):0 < degP ps p:=Mx.fact_pos _
theorem prod_pos (ps:List Pr) (n:Nat):0 < Mx.prodTo (degP ps) n:=Mx.prodTo_pos fun p _=>degP_pos ps p
theorem trs_cnt {n g:Nat} {ps:List Pr} (he:endsOk n ps=true) (hg:g < n):((Mx.trs n (enR n ps) (gvL ps (others n g))).length:Int)=cntT n ps g:=by
 unfold cntT
 rw [Mx.det_trs fun i x _ hx=>gvL_ends he _ _ _ hx]
def PvRA (H:Hp) (x dt do_:Addr) (n:Nat) (ps:List Pr) (c:Nat→Nat) (num many:Nat) (i:Nat) (σ:St) (H':Hp):Prop:=∃ (v:Option V) (rs:List Addr),σ=[some (.ref x),some (.int ((num / Mx.prodTo (degP ps) i:Nat):Int)),some (.int many),some (.ref dt),some (.ref do_),v]∧Same H H'∧H' do_=some (.lst (rs.map V.ref))∧rs.length=i∧∀ q r,rs[q]?=some r→H' r=some (.lst (nats (Mx.ordr ps.length (stR ps) c (num / Mx.prodTo (degP ps) q) q)))
def sp_ring_at (C:Addr):Sp:=fun vs H Q _=>∃ (x l:Addr) (as:List Addr) (n num:Nat) (ps:List Pr),vs=[.ref x,.int num]∧NetAt C H x l as n ps∧unlikeOf n ps=[]∧apartOf n ps=[]∧(num:Int) < cntT n ps (stR ps 0) * (Mx.prodTo (degP ps) n:Nat) ∧
 ∀ (d:Addr) (H':Hp) (c:List Nat),Same H H'→H d=none→(Mx.trs n (enR n ps) (gvL ps (others n (stR ps 0))))[num / Mx.prodTo (degP ps) n]?=some c→H' d=some (.lst (nats (ringP n ps (Mx.ofL c) (num % Mx.prodTo (degP ps) n))))→Q (.ref d) H'
theorem ok_v1 (c0:NoX CX) (T:Txt K mg t):FnOk P w K mg base CX 7 t.f_v1 t.d_v1 ["net","number"] (sp_ring_at t.C_Net):=by
 refine T.F_v1.okX sc_v1 (fun vs H Q E h=>?_) (fun cdv A outer s H vs Q E hr h=>?_)
 · obtain ⟨x,l,as,n,num,ps,rfl,_⟩:=h
   rfl
 · obtain ⟨x,l,as,n,num,ps,rfl,N,hu,hap,hnum,q⟩:=h
   obtain ⟨dx,ex⟩:=N.ob
   have hok:=N.ok
   obtain ⟨⟨n1,n2⟩,⟨l1,l2⟩,hends,hex⟩:=netOk_parts N.ok
   have hs0:stR ps 0 < n:=(stR_cast hends (by omega)).2
   have pp:=prod_pos ps n
   refine ⟨_,(pss_cons (ps_if (pt_cmpR op_notN (pe_call (ok_x1 c0 T) (hr.mono (by decide)) (by rfl) T.m_x1 T.F_x1.kp T.b_x1 .nil (pass1 c0) (pa_cons (pv 0) pa_nil)) pe_non (nomark _))
 (pss_one ps_never)
 pss_nil)
 (pss_cons (ps_set (i:=2) sc_v1.nd (by rfl) (Or.inl rfl) (pe_call (ok_z c0 T) (hr.mono (by decide)) (by rfl) T.m_z T.F_z.kp T.b_z .nil (pass1 c0) (pa_cons (pv 0) pa_nil)))
 (pss_cons (ps_set (i:=3) sc_v1.nd (by rfl) (Or.inl rfl) (pe_call (ok_s1 c0 T) (hr.mono (by decide)) (by rfl) T.m_s1 T.F_s1.kp T.b_s1 .nil (pass1 c0) (pa_cons (pv 0) (pa_cons (pe_call (ok_y c0 T) (hr.mono (by decide)) (by rfl) T.m_y T.F_y.kp T.b_y .nil (pass1 c0) (pa_cons (pv 0) pa_nil)) (pa_cons (pe_op op_fdivB (pv 1) (pv 2)) pa_nil)))))
 (pss_cons (ps_aug (i:=1) sc_v1.nd (by rfl) (Or.inl rfl) (pv 2) iop_mod)
 (pss_cons (ps_set (i:=4) sc_v1.nd (by rfl) (Or.inl rfl) (pe_lst pa_nil))
 (pss_cons (ps_for PassesOwn.never (by rfl) (pi_range1 (by rfl) T.n_range (pa_cons (pe_meth0 (pv 0) T.cl_Net T.M_v (ok_v c0 T) (hr.mono (by decide)) T.b_v .nil (pass1 c0)) pa_nil)) (pg_name (i:=5) sc_v1.nd (by rfl) (Or.inl rfl))
 (pss_cons (ps_expr (pe_bm PySem.F.plainAttrs_list PySem.F.slot_list_append PySem.F.type_list_append mt_append (pv 4) (pa_cons (pe_call (ok_j c0 T) (hr.mono (by decide)) (by rfl) T.m_j T.F_j.kp T.b_j .nil (pass1 c0) (pa_cons (pv 0) (pa_cons (pv 5) (pa_cons (pe_ix ix_list (pv 3) (pv 5) (fun _ _=>rfl)) (pa_cons (pv 1) pa_nil))))) pa_nil)))
 (pss_one (ps_aug (i:=1) sc_v1.nd (by rfl) (Or.inl rfl) (pe_call (ok_l1 c0 T) (hr.mono (by decide)) (by rfl) T.m_l1 T.F_l1.kp T.b_l1 .nil (pass1 c0) (pa_cons (pe_op op_sub (pe_callB call_len (by rfl) T.n_len (by decide +kernel:bootBuiltins "len"=some (.builtin "len")) (pa_cons (pe_ix ix_list (pv 4) (pv 5) (fun _ _=>rfl)) pa_nil)) pe_int) pa_nil)) iop_fdivB))))
 (pss_one (ps_ret (pe_call (ok_w1 c0 T) (hr.mono (by decide)) (by rfl) T.m_w1 T.F_w1.kp T.b_w1 .nil (pass1 c0) (pa_cons (pv 0) (pa_cons (pv 4) pa_nil))))))))))),?_⟩
   open_k with [tAug]
   refine ⟨x,l,as,n,ps,rfl,N,fun v H1 s1 W=>?_⟩
   have ev:v=.non:=by
    cases W with
    | unlike h=>exact absurd hu h
    | apart _ h=>exact absurd hap h
    | none _ _=>rfl
   subst ev
   show if (!decide (V.non = V.non)) = true then _ else _
   rw [if_neg (by simp)]
   refine ⟨x,l,as,n,ps,rfl,N.same s1,fun H2 s2=>?_⟩
   have s02:=s1.trans s2
   refine ⟨x,l,as,n,ps,rfl,N.same s02,fun H3 s3=>⟨_,rfl,⟨by omega,prod_big hends (by omega) (Nat.le_refl _)⟩,?_⟩⟩
   have s03:=s02.trans s3
   have ed:(num:Int) / ((Mx.prodTo (degP ps) n:Nat):Int)=((num / Mx.prodTo (degP ps) n:Nat):Int):=by rw [Int.natCast_ediv]
   have em:(num:Int) % ((Mx.prodTo (degP ps) n:Nat):Int)=((num % Mx.prodTo (degP ps) n:Nat):Int):=by rw [Int.natCast_emod]
   rw [ed]
   have htn:((num / Mx.prodTo (degP ps) n:Nat):Int) < cntT n ps (stR ps 0):=by
    rw [Int.natCast_ediv]
    exact Int.ediv_lt_of_lt_mul (by omega) hnum
   refine ⟨x,l,as,n,stR ps 0,num / Mx.prodTo (degP ps) n,ps,rfl,N.same s03,hs0,htn,fun dt H4 c s4 fdt hc hdt=>⟨_,rfl,by omega,by decide,fun do_ fdo=>?_⟩⟩
   rw [em]
   have s04:=s03.trans s4
   obtain ⟨c1,c2,c3⟩:=trees_facts hok hs0 hc
   have rp:=ringP_is hok hu c1 c2 (num % Mx.prodTo (degP ps) n)
   generalize hM:num % Mx.prodTo (degP ps) n=M at *
   have s5:Same H4 (upd H4 do_ (.lst [])):=Same.new fdo
   have h5:upd H4 do_ (.lst []) do_=some (.lst []):=upd_same
   generalize upd H4 do_ (.lst [])=H5 at *
   have s05:=s04.trans s5
   have fdo0:H do_=none:=s04.free fdo
   have hdt5:=s5 _ _ hdt
   have ndt:dt ≠ do_:=ne_of_none hdt fdo
   have frs:∀ (H':Hp),Same H4 H'→∀ b o,H b=some o→H' b=some o:=fun H' s' b o e=>s' _ _ (s04 _ _ e)
   refine ⟨_,_,s05 _ _ ex,nfl_no _ _ (by decide +kernel) (by decide +kernel),x,l,as,n,ps,rfl,N.same s05,_,rfl,by omega,by omega,forb_range (PvRA H4 x dt do_ n ps (Mx.ofL c) M (Mx.prodTo (degP ps) n)) ⟨none,[],?_,s5,h5,rfl,by simp⟩ ?_ ?_⟩
   · rw [show Mx.prodTo (degP ps) 0=1 from rfl,Nat.div_one]
   · rintro i σ H6 hi ⟨v,rs,rfl,s6,h6,hl6,hr6⟩
     rw [Int.toNat_natCast] at hi
     have N6:NetAt t.C_Net H6 x l as n ps:=N.same (s04.trans s6)
     have it:atI (treeV n (stR ps 0) (Mx.ofL c)) ((i:Nat):Int)=some (optV (lastO ps (Mx.ofL c) i)):=atI_nat (tree_opt hi)
     open_k with [rIxL,tAug,rAppend,Int.zero_add]
     refine ⟨Or.inl ⟨rfl,_,SqL.of h6⟩,_,SqL.of (s6 _ _ hdt),_,it,x,l,as,n,i,M / Mx.prodTo (degP ps) i,ps,lastO ps (Mx.ofL c) i,rfl,N6,hi,fun d H7 s7 fd hd=>⟨_,s7 _ _ h6,?_,?_⟩⟩
     · rw [List.length_map,hl6]
       exact Nat.lt_of_lt_of_le (show i < 1000 by omega) (by decide)
     rw [ord_eq hends] at hd
     have ndo:d ≠ do_:=fun z=>by rw [z] at fd; rw [h6] at fd; cases fd
     have h8:upd H7 do_ (.lst (rs.map V.ref++[.ref d])) do_=some (.lst ((rs++[d]).map V.ref)):=by rw [upd_same]; simp
     have hd8:upd H7 do_ (.lst (rs.map V.ref++[.ref d])) d=some (.lst (nats (Mx.ordr ps.length (stR ps) (Mx.ofL c) (M / Mx.prodTo (degP ps) i) i))):=by rw [upd_ne ndo]; exact hd
     have k8:∀ b o,H7 b=some o→b ≠ do_→upd H7 do_ (.lst (rs.map V.ref++[.ref d])) b=some o:=fun b o e hb=>by rw [upd_ne hb]; exact e
     generalize upd H7 do_ (.lst (rs.map V.ref++[.ref d]))=H8 at *
     have lo:(Mx.ordr ps.length (stR ps) (Mx.ofL c) (M / Mx.prodTo (degP ps) i) i).length=(exitsOf ps i).length:=by
      rw [(Mx.ordr_perm (by omega) fun hne=>by rw [exN_eq hends]; exact c1 i hi hne).length_eq,exN_eq hends]
     obtain ⟨k,hk,e⟩:=exits_some hex hi
     have hm:k∈exitsOf ps i:=(exits_iff hends).mpr ⟨hk,by have:=(stR_cast hends hk).1; omega⟩
     have hpos:1≤(exitsOf ps i).length:=List.length_pos_of_mem hm
     have hle:=exits_len ps i
     have ia:atI ((rs++[d]).map V.ref) ((i:Nat):Int)=some (.ref d):=atI_nat (by rw [List.getElem?_map,List.getElem?_append_right (by omega),hl6]; simp)
     refine ⟨_,SqL.of h8,_,ia,_,lenL (SqL.of hd8),(exitsOf ps i).length - 1,?_,by omega,_,rfl,⟨?_,deg_big (i:=i) (by omega)⟩,?_⟩
     · rw [nats_len,lo]
       congr 2
       omega
     · have:=degP_pos ps i
       unfold degP at this
       omega
     have en:((M / Mx.prodTo (degP ps) i:Nat):Int) / ((Mx.fact ((exitsOf ps i).length - 1):Nat):Int)=((M / Mx.prodTo (degP ps) (i+1):Nat):Int):=by
      rw [← Int.natCast_ediv,Nat.div_div_eq_div_mul]
      rfl
     rw [en]
     refine ⟨_,rs++[d],rfl,fun b o e=>k8 b o (s7 _ _ (s6 _ _ e)) (ne_of_none e fdo),h8,by simp [hl6],fun q r hr=>?_⟩
     by_cases hq:q < i
     · rw [List.getElem?_append_left (by omega)] at hr
       have hrr:=hr6 q r hr
       refine k8 _ _ (s7 _ _ hrr) fun z=>?_
       rw [z,h6] at hrr
       injection hrr with hrr
       injection hrr with hrr
       have h9:(rs.map V.ref)[q]?=some (.ref r):=by rw [List.getElem?_map,hr]; rfl
       rw [hrr] at h9
       obtain ⟨y,_,hy⟩:=nats_get h9
       cases hy
     · have hqi:q=i:=by
        have:=(List.getElem?_eq_some_iff.mp hr).1
        simp at this
        omega
       subst hqi
       rw [List.getElem?_append_right (by omega),hl6] at hr
       simp at hr
       subst hr
       exact hd8
   · rintro σ H6 ⟨v,rs,rfl,s6,h6,hl6,hr6⟩
     rw [Int.toNat_natCast] at hl6
     open_k with []
     have e:Mx.walk (enR n ps) ps.length (stR ps 0) (fun p=>Mx.ordr ps.length (stR ps) (Mx.ofL c) (M / Mx.prodTo (degP ps) p) p)=ringP n ps (Mx.ofL c) M:=by
      unfold ringP Mx.ringN
      rw [degB_eq hends]
     refine ⟨x,l,do_,as,rs,n,ps,fun p=>Mx.ordr ps.length (stR ps) (Mx.ofL c) (M / Mx.prodTo (degP ps) p) p,rfl,N.same (s04.trans s6),h6,hl6,hr6,fun p hp y hy=>?_,?_,fun d H7 s7 fd hd=>?_⟩
     · have hy:y∈Mx.ordr ps.length (stR ps) (Mx.ofL c) (M / Mx.prodTo (degP ps) p) p:=hy
       rw [← rp.2 p hp] at hy
       exact List.mem_range.mp (rp.1.2.1.subset (List.mem_filter.mp hy).1)
     · rw [e,rp.1.2.1.length_eq,List.length_range]
     · rw [e] at hd
       exact q d H7 c ((s04.trans s6).trans s7) ((s04.trans s6).free fd) hc hd
end
end Rb
namespace Rb
open PySem L2
section
variable {CX:CXT} {P:Program} {w:World} {K:PySem.W.Frag} {mg:Str→Option Value} {base:Heap} {t:Adr}
theorem cutV_dropLast (xs:List V) (h:1≤xs.length):cutV xs none (some (-1))=xs.dropLast:=by
 unfold cutV
 rw [HT.sIx_none]
 have e:HT.sIx xs.length xs.length (some (-1))=xs.length - 1:=by
  show (if (-1:Int) < 0 then ((-1:Int)+(xs.length:Int)).toNat else min (-1:Int).toNat xs.length)=xs.length - 1
  rw [if_pos (by decide)]
  omega
 rw [e,List.dropLast_eq_take]
 rfl
def lastsP (ps:List Pr) (rn:List Nat) (p:Nat):Nat:=(rn.filter fun x=>stR ps x == p).getLast?.getD 0
def restP (ps:List Pr) (rn:List Nat) (p:Nat):List Nat:=Mx.restN (stR ps) rn p
def digP (ps:List Pr) (rn:List Nat) (p:Nat):Nat:=Mx.orderNum (Mx.freeN ps.length (stR ps) (if p=stR ps 0 then 0 else lastsP ps rn p) p) (restP ps rn p)
theorem lasts_some {n:Nat} {ps:List Pr} (hok:netOk n ps=true) {rn:List Nat} (h:Mx.isRing ps.length (stR ps) (enR n ps) rn) {p:Nat} (hp:p < n):(rn.filter fun x=>stR ps x == p).getLast?=some (lastsP ps rn p)∧lastsP ps rn p∈exitsOf ps p:=by
 obtain ⟨_,_,he,hx⟩:=netOk_parts hok
 have N:=netN_of hok
 obtain ⟨j,hj,e⟩:=N.exi p hp
 have hm:j∈rn.filter fun x=>stR ps x == p:=List.mem_filter.mpr ⟨h.2.1.symm.subset (List.mem_range.mpr hj),by simp [e]⟩
 have hne:(rn.filter fun x=>stR ps x == p) ≠ []:=List.ne_nil_of_mem hm
 have h1:(rn.filter fun x=>stR ps x == p).getLast?=some (lastsP ps rn p):=by
  unfold lastsP
  rw [List.getLast?_eq_some_getLast hne]
  rfl
 refine ⟨h1,?_⟩
 have:=List.mem_of_getLast? h1
 rw [← exN_eq he]
 exact (Mx.ring_filter h p).subset this
theorem lasts_leads {n:Nat} {ps:List Pr} (hok:netOk n ps=true) {rn:List Nat} (h:Mx.isRing ps.length (stR ps) (enR n ps) rn):Mx.leads n (stR ps 0) (enR n ps) (lastsP ps rn):=Mx.ring_leads (netN_of hok) h fun p hp _=>(lasts_some hok h hp).1
theorem rest_perm {n:Nat} {ps:List Pr} (hok:netOk n ps=true) {rn:List Nat} (h:Mx.isRing ps.length (stR ps) (enR n ps) rn) {p:Nat} (hp:p < n):(restP ps rn p).Perm (Mx.freeN ps.length (stR ps) (if p=stR ps 0 then 0 else lastsP ps rn p) p)∧(restP ps rn p).length+1=(exitsOf ps p).length:=by
 obtain ⟨_,⟨l1,_⟩,he,_⟩:=netOk_parts hok
 have hperm:=Mx.ring_filter h p
 by_cases e:p=stR ps 0
 · have hf:rn.filter (fun x=>stR ps x == p)=0 :: restP ps rn p:=by
    unfold restP Mx.restN
    rw [if_pos e]
    obtain ⟨_,_,h3⟩:=h
    cases rn with
    | nil=>simp at h3
    | cons x W =>
     have hx:x=0:=by simpa using h3
     subst hx
     rw [List.filter_cons,e]
     simp
   have h0:0∈Mx.exN ps.length (stR ps) p:=Mx.mem_exN.mpr ⟨by omega,e.symm⟩
   rw [if_pos e]
   rw [hf] at hperm
   refine ⟨(List.perm_cons 0).mp (hperm.trans (Mx.free_len h0).2.symm),?_⟩
   rw [← exN_eq he,← hperm.length_eq]
   rfl
 · obtain ⟨hl,h0⟩:=lasts_some hok h hp
   have hf:rn.filter (fun x=>stR ps x == p)=restP ps rn p++[lastsP ps rn p]:=by
    unfold restP Mx.restN
    rw [if_neg e]
    exact (Mx.List.dropLast_concat_getLast' hl).symm
   rw [← exN_eq he] at h0
   rw [if_neg e]
   rw [hf] at hperm
   refine ⟨(List.perm_cons (lastsP ps rn p)).mp ((List.perm_append_comm (l₁:=[lastsP ps rn p]) (l₂:=restP ps rn p)).trans (hperm.trans (Mx.free_len h0).2.symm)),?_⟩
   rw [← exN_eq he,← hperm.length_eq]
   simp
def PvRN (H:Hp) (x r d1 dt:Addr) (n:Nat) (ps:List Pr) (rn:List Nat) (i:Nat) (σ:St) (H':Hp):Prop:=∃ (v1 v2 v3:Option V),σ=[some (.ref x),some (.ref r),some (.ref d1),some (.int ((stR ps 0:Nat):Int)),some (.ref dt),some (.int ((Mx.sumTo (degP ps) (digP ps rn) i:Nat):Int)),some (.int ((Mx.prodTo (degP ps) i:Nat):Int)),v1,v2,v3]∧Same H H'∧H' dt=some (.lst ((treeV n (stR ps 0) (lastsP ps rn)).take i))
def sp_ring_number (C:Addr):Sp:=fun vs H Q _=>∃ (x l r:Addr) (as:List Addr) (n:Nat) (ps:List Pr) (rn:List Nat),vs=[.ref x,.ref r]∧NetAt C H x l as n ps∧H r=some (.lst (nats rn))∧ps.length≤64∧Mx.isRing ps.length (stR ps) (enR n ps) rn ∧
 ∀ (H':Hp) (tn:Nat),Same H H'→(Mx.trs n (enR n ps) (gvL ps (others n (stR ps 0))))[tn]?=some (listT n (stR ps 0) ps.length (lastsP ps rn))→Q (.int ((tn * Mx.prodTo (degP ps) n+Mx.sumTo (degP ps) (digP ps rn) n:Nat):Int)) H'
theorem ring_RingP {n:Nat} {ps:List Pr} {rn:List Nat} (h:Mx.isRing ps.length (stR ps) (enR n ps) rn):RingP n ps (rn.map fun (k:Nat)=>(k:Int)):=by
 obtain ⟨h1,h2,h3⟩:=h
 refine ⟨rn,rfl,h2,h3,?_⟩
 have key:∀ (l:List Nat) (p e:Nat),Mx.path (stR ps) (enR n ps) p l e→l ≠ []→l.map (enR n ps)=(l.map (stR ps)).drop 1++[e]∧(l.map (stR ps)).take 1=[p]:=by
  intro l
  induction l with
  | nil=>intro _ _ _ h; exact absurd rfl h
  | cons y l ih =>
   intro p e hp _
   obtain ⟨a,b⟩:=hp
   refine ⟨?_,by simp [a]⟩
   cases l with
   | nil =>
    have:enR n ps y=e:=b
    simp [this]
   | cons z l =>
    obtain ⟨c,d⟩:=ih (enR n ps y) e b (by simp)
    have d':stR ps z=enR n ps y:=by simpa using d
    rw [List.map_cons,c]
    simp [d']
 cases rn with
 | nil=>cases h3
 | cons y l =>
  obtain ⟨a,b⟩:=key (y :: l) (stR ps 0) (stR ps 0) h1 (by simp)
  rw [a,b]
theorem ok_a1 (c0:NoX CX) (T:Txt K mg t):FnOk P w K mg base CX 7 t.f_a1 t.d_a1 ["net","ring"] (sp_ring_number t.C_Net):=by
 refine T.F_a1.okX sc_a1 (fun vs H Q E h=>?_) (fun cdv A outer s H vs Q E hr h=>?_)
 · obtain ⟨x,l,r,as,n,ps,rn,rfl,_⟩:=h
   rfl
 · obtain ⟨x,l,r,as,n,ps,rn,rfl,N,hr0,h64,hR,q⟩:=h
   obtain ⟨dx,ex⟩:=N.ob
   have hok:=N.ok
   obtain ⟨⟨n1,n2⟩,⟨l1,l2⟩,hends,hex⟩:=netOk_parts N.ok
   have la:=N.ts.len
   have lm:(as.map V.ref).length=ps.length:=by rw [List.length_map,la]
   have hs0:stR ps 0 < n:=(stR_cast hends (by omega)).2
   have lr:rn.length=ps.length:=by rw [hR.2.1.length_eq,List.length_range]
   have em:∀ l:List Nat,nats l=(l.map fun (k:Nat)=>(k:Int)).map V.int:=fun l=>by simp [nats]
   refine ⟨_,(pss_cons (ps_if (pt_not (pt_val (pe_call (ok_u1 c0 T) (hr.mono (by decide)) (by rfl) T.m_u1 T.F_u1.kp T.b_u1 .nil (pass1 c0) (pa_cons (pv 0) (pa_cons (pv 1) pa_nil)))))
 (pss_one ps_never)
 pss_nil)
 (pss_cons (ps_set (i:=2) sc_a1.nd (by rfl) (Or.inr rfl) (pe_meth0 (pv 0) T.cl_Net T.M_e1 (ok_e1 c0 T) (hr.mono (by decide)) T.b_e1 .nil (pass1 c0)))
 (pss_cons (ps_set (i:=3) sc_a1.nd (by rfl) (Or.inl rfl) (pe_call (ok_y c0 T) (hr.mono (by decide)) (by rfl) T.m_y T.F_y.kp T.b_y .nil (pass1 c0) (pa_cons (pv 0) pa_nil)))
 (pss_cons (ps_set (i:=4) sc_a1.nd (by rfl) (Or.inl rfl) (pe_lst pa_nil))
 (pss_cons (ps_set (i:=5) sc_a1.nd (by rfl) (Or.inl rfl) pe_int)
 (pss_cons (ps_set (i:=6) sc_a1.nd (by rfl) (Or.inl rfl) pe_int)
 (pss_cons (ps_for PassesOwn.never (by rfl) (pi_range1 (by rfl) T.n_range (pa_cons (pe_meth0 (pv 0) T.cl_Net T.M_v (ok_v c0 T) (hr.mono (by decide)) T.b_v .nil (pass1 c0)) pa_nil)) (pg_name (i:=7) sc_a1.nd (by rfl) (Or.inr rfl))
 (pss_cons (ps_comp (i:=8) sc_a1.nd (by rfl) (Or.inl rfl) (own:=(["road"]:List Str)) (fr:=(["place","roads"]:List Str)) (ix:=([7,2]:List Nat)) (by rfl) ⟨by rfl,by decide +kernel,by rfl,by rfl,by rfl⟩ (pi_list (pv 1)) (fun _=>(pg_name (i:=0) (show List.Nodup (["road","place","roads"]:List Str) by decide +kernel) (by rfl) (Or.inl rfl))) (fun _ hB=>(pts_one (pt_cmpR op_eq (pe_ix ix_tup (pe_ix ix_list (pv 2) (pv 0) (fun _ _=>rfl)) pe_int (fun _ _=>rfl)) (pv 1) (nomark _)))) (fun _ hB=>(pv 0)))
 (pss_cons (ps_expr (pe_bm PySem.F.plainAttrs_list PySem.F.slot_list_append PySem.F.type_list_append mt_append (pv 4) (pa_cons (pe_ifExp (pt_cmpR op_eq (pv 7) (pv 3) (nomark _)) pe_non (pe_ix ix_list (pv 8) (pe_un un_neg pe_int) (fun _ _=>rfl))) pa_nil)))
 (pss_cons (ps_set (i:=9) sc_a1.nd (by rfl) (Or.inl rfl) (pe_ifExp (pt_cmpR op_eq (pv 7) (pv 3) (nomark _)) (pe_slice sl_list (pv 8) (po_some pe_int) po_none) (pe_slice sl_list (pv 8) po_none (po_some (pe_un un_neg pe_int)))))
 (pss_cons (ps_aug (i:=5) sc_a1.nd (by rfl) (Or.inl rfl) (pe_op op_mulB (pv 6) (pe_call (ok_r c0 T) (hr.mono (by decide)) (by rfl) T.m_r T.F_r.kp T.b_r .nil (pass1 c0) (pa_cons (pv 9) pa_nil))) iop_add)
 (pss_one (ps_aug (i:=6) sc_a1.nd (by rfl) (Or.inl rfl) (pe_call (ok_l1 c0 T) (hr.mono (by decide)) (by rfl) T.m_l1 T.F_l1.kp T.b_l1 .nil (pass1 c0) (pa_cons (pe_callB call_len (by rfl) T.n_len (by decide +kernel:bootBuiltins "len"=some (.builtin "len")) (pa_cons (pv 9) pa_nil)) pa_nil)) iop_mulB)))))))
 (pss_one (ps_ret (pe_op op_add (pe_op op_mulB (pe_call (ok_x c0 T) (hr.mono (by decide)) (by rfl) T.m_x T.F_x.kp T.b_x .nil (pass1 c0) (pa_cons (pv 0) (pa_cons (pv 3) (pa_cons (pv 4) pa_nil)))) (pv 6)) (pv 5))))))))))),?_⟩
   open_k with [tAug]
   refine ⟨x,l,r,as,n,ps,rn.map fun (k:Nat)=>(k:Int),rfl,N,by rw [← em]; exact hr0,by rw [List.length_map]; omega,fun b H1 s1 hb=>⟨_,rfl,?_⟩⟩
   have eb:b=true:=hb.mpr (ring_RingP hR)
   subst eb
   rw [if_neg (by simp)]
   have N1:=N.same s1
   refine ⟨_,_,s1 _ _ ex,nfl_no _ _ (by decide +kernel) (by decide +kernel),x,l,as,n,ps,rfl,N1,fun d1 fd1=>?_⟩
   have s2:Same H1 (upd H1 d1 (.lst (as.map V.ref))):=Same.new fd1
   have hd1:upd H1 d1 (.lst (as.map V.ref)) d1=some (.lst (as.map V.ref)):=upd_same
   generalize upd H1 d1 (.lst (as.map V.ref))=H2 at *
   have s02:=s1.trans s2
   refine ⟨x,l,as,n,ps,rfl,N.same s02,fun H3 s3=>⟨by decide,fun dt fdt=>?_⟩⟩
   have s03:=s02.trans s3
   have hd13:=s3 _ _ hd1
   have s4:Same H3 (upd H3 dt (.lst [])):=Same.new fdt
   have h4:upd H3 dt (.lst []) dt=some (.lst []):=upd_same
   generalize upd H3 dt (.lst [])=H4 at *
   have s04:=s03.trans s4
   have fdt0:H dt=none:=s03.free fdt
   refine ⟨_,_,s04 _ _ ex,nfl_no _ _ (by decide +kernel) (by decide +kernel),x,l,as,n,ps,rfl,N.same s04,_,rfl,by omega,by omega,forb_range (PvRN H3 x r d1 dt n ps rn) ⟨none,none,none,rfl,s4,h4⟩ ?_ ?_⟩
   · rintro i σ H5 hi ⟨v1,v2,v3,rfl,s5,h5⟩
     rw [Int.toNat_natCast] at hi
     have s05:=s03.trans s5
     have hr5:=s05 _ _ hr0
     have hd15:=s5 _ _ hd13
     have ts5:=N.ts.same s05
     have ndt:∀ b o,H3 b=some o→b ≠ dt:=fun b o e=>ne_of_none e fdt
     obtain ⟨hl1,hl2⟩:=lasts_some hok hR hi
     obtain ⟨rp1,rp2⟩:=rest_perm hok hR hi
     have hdl:=exits_len ps i
     open_k with [tAug,Int.zero_add]
     refine ⟨⟨_,SqL.of hr5⟩,blk_list (xs:=nats rn) (fun j ys σ H'=>∃ u,σ=[u,some (.int i),some (.ref d1)]∧H'=H5∧ys=nats ((rn.take j).filter fun y=>stR ps y == i)) (by rw [nats_len]; exact small_le (by omega)) ⟨none,rfl,rfl,rfl⟩ ?_ ?_ ?_⟩
     · rintro j ys σ H6 hj ⟨u,rfl,rfl,rfl⟩
       refine ⟨SqL.of hr5,?_⟩
       rw [nats_len]
       exact Nat.le_trans (List.length_filter_le _ _) (by rw [List.length_take]; omega)
     · rintro bk j y ys σ H6 hy ⟨u,rfl,rfl,rfl⟩
       obtain ⟨k,hk,rfl⟩:=nats_get hy
       have hkm:k < ps.length:=List.mem_range.mp (hR.2.1.subset (List.mem_of_getElem? hk))
       obtain ⟨a1,ha1,hA⟩:=ts5.get' (i:=k) (q:=ps[k]) (by simp [hkm])
       have ia:atI (as.map V.ref) ((k:Nat):Int)=some (.ref a1):=atI_nat (by rw [List.getElem?_map,ha1]; rfl)
       have e1:ps[k].1=((stR ps k:Nat):Int):=by
        have:=(stR_cast hends hkm).1
        rw [List.getD_eq_getElem?_getD] at this
        simp [hkm] at this
        omega
       open_k with [rIxL,rIxT]
       refine ⟨_,SqL.of hd15,_,ia,a1,rfl,_,SqT.of hA,_,atI_nat (j:=0) rfl,?_⟩
       rw [e1,List.take_add_one,hk,List.filter_append,nats_append]
       refine ⟨rfl,?_⟩
       by_cases c:stR ps k=i
       · rw [if_pos (by simp [c])]
         simp [c,nats]
       · rw [if_neg (by simp; omega)]
         simp [c,nats]
     · rintro ys σ H6 D ⟨u,rfl,rfl,rfl⟩ hD
       rw [nats_len,List.take_length]
       generalize hF:rn.filter (fun y=>stR ps y == i)=F at *
       have s6:Same H6 (upd H6 D (.lst (nats F))):=Same.new hD
       have h6:upd H6 D (.lst (nats F)) D=some (.lst (nats F)):=upd_same
       generalize upd H6 D (.lst (nats F))=H7 at *
       have s07:∀ b o,H3 b=some o→H7 b=some o:=fun b o e=>s6 _ _ (s5 _ _ e)
       have hdt7:=s6 _ _ h5
       have ndD:D ≠ dt:=fun z=>by rw [z,h5] at hD; cases hD
       have lF:F.length=(exitsOf ps i).length:=by
        rw [← hF,(Mx.ring_filter hR i).length_eq,exN_eq hends]
       have tl:(treeV n (stR ps 0) (lastsP ps rn)).take (i+1)=(treeV n (stR ps 0) (lastsP ps rn)).take i++[optV (lastO ps (lastsP ps rn) i)]:=by
        rw [List.take_add_one,tree_opt hi]
        rfl
       have ll:((treeV n (stR ps 0) (lastsP ps rn)).take i).length < sizeLine:=by
        rw [List.length_take]
        exact Nat.lt_of_le_of_lt (Nat.min_le_left _ _) (Nat.lt_of_lt_of_le (show i < 1000 by omega) (by decide))
       have fin:∀ (p:Addr) (H8:Hp),(∀ b o,H3 b=some o→H8 b=some o)→H8 dt=some (.lst ((treeV n (stR ps 0) (lastsP ps rn)).take (i+1)))→H8 p=some (.lst (nats (restP ps rn i)))→sp_order_number [.ref p] H8 (fun y H2=>∃ x_3,y=.int x_3∧CMulB ((Mx.prodTo (degP ps) i:Nat):Int) x_3∧∃ x_4,LenV K (.ref p) H2 x_4∧sp_factorial [.int (x_4:Nat)] H2 (fun y H1=>∃ x_5,y=.int x_5∧CMulB ((Mx.prodTo (degP ps) i:Nat):Int) x_5∧PvRN H3 x r d1 dt n ps rn (i+1)
        [some (.ref x),some (.ref r),some (.ref d1),some (.int ((stR ps 0:Nat):Int)),some (.ref dt),some (.int (((Mx.sumTo (degP ps) (digP ps rn) i:Nat):Int)+((Mx.prodTo (degP ps) i:Nat):Int) * x_3)),some (.int (((Mx.prodTo (degP ps) i:Nat):Int) * x_5)),some (.int (i:Nat)),some (.ref D),some (.ref p)] H1) E0) E0:=fun p H8 k8 h8t h8p=>by
        have ss := (Mx.exN_sorted ps.length (stR ps) i).filter (fun j => j != (if i = stR ps 0 then 0 else lastsP ps rn i))
        have ol:=(Mx.orderNum_lt _ _ rp1 ((Mx.exN_nodup ps.length (stR ps) i).filter _)).1
        have fl:(Mx.freeN ps.length (stR ps) (if i=stR ps 0 then 0 else lastsP ps rn i) i).length≤64:=by rw [← rp1.length_eq]; omega
        refine ⟨p,restP ps rn i,_,rfl,h8p,by omega,rp1,ss,fun H9 s9=>⟨_,rfl,⟨prod_big hends (by omega) (by omega),big_of (by simpa using Nat.le_of_lt ol) (big_fact fl)⟩,_,lenL (SqL.of (s9 _ _ h8p)),(restP ps rn i).length,by rw [nats_len],by omega,_,rfl,⟨prod_big hends (by omega) (by omega),big_fact (by omega)⟩,?_⟩⟩
        have e1:((Mx.sumTo (degP ps) (digP ps rn) i:Nat):Int)+((Mx.prodTo (degP ps) i:Nat):Int) * ((Mx.orderNum (Mx.freeN ps.length (stR ps) (if i=stR ps 0 then 0 else lastsP ps rn i) i) (restP ps rn i):Nat):Int)=((Mx.sumTo (degP ps) (digP ps rn) (i+1):Nat):Int):=by
         show _=((Mx.sumTo (degP ps) (digP ps rn) i+Mx.prodTo (degP ps) i * digP ps rn i:Nat):Int)
         push_cast
         rfl
        have e2:((Mx.prodTo (degP ps) i:Nat):Int) * ((Mx.fact (restP ps rn i).length:Nat):Int)=((Mx.prodTo (degP ps) (i+1):Nat):Int):=by
         show _=((Mx.prodTo (degP ps) i * degP ps i:Nat):Int)
         have:degP ps i=Mx.fact (restP ps rn i).length:=by
          unfold degP
          rw [← rp2]
          rfl
         rw [this]
         push_cast
         rfl
        rw [e1,e2]
        exact ⟨_,_,_,rfl,fun b o e=>s9 _ _ (k8 _ _ e),s9 _ _ h8t⟩
       have up:∀ (v:V) (p:Addr) (L:List V),v=optV (lastO ps (lastsP ps rn) i)→upd H7 dt (.lst ((treeV n (stR ps 0) (lastsP ps rn)).take i++[v])) p=none→L=nats (restP ps rn i) →
        (∀ b o,H3 b=some o→upd (upd H7 dt (.lst ((treeV n (stR ps 0) (lastsP ps rn)).take i++[v]))) p (.lst L) b=some o)∧upd (upd H7 dt (.lst ((treeV n (stR ps 0) (lastsP ps rn)).take i++[v]))) p (.lst L) dt=some (.lst ((treeV n (stR ps 0) (lastsP ps rn)).take (i+1)))∧upd (upd H7 dt (.lst ((treeV n (stR ps 0) (lastsP ps rn)).take i++[v]))) p (.lst L) p=some (.lst (nats (restP ps rn i))):=fun v p L hv fp hL=>by
        subst hv hL
        refine ⟨fun b o e=>?_,?_,upd_same⟩
        · refine upd_old ?_ fp
          rw [upd_ne (ndt b o e)]
          exact s07 b o e
        · refine upd_old ?_ fp
          rw [upd_same,tl]
       have hFl:F.getLast?=some (lastsP ps rn i):=hl1
       open_k with [rIxL,rSlL,rAppend,tAug]
       refine ⟨Or.inl ⟨rfl,_,SqL.of hdt7⟩,rfl,?_⟩
       by_cases c:i=stR ps 0
       · have ci:decide ((i:Int)=((stR ps 0:Nat):Int))=true:=by simp [c]
         rw [if_pos ci]
         refine ⟨_,hdt7,ll,rfl,?_⟩
         rw [if_pos ci]
         refine ⟨_,SqL.of (by rw [upd_ne ndD]; exact h6),fun p fp=>?_⟩
         have hL:cutV (nats F) (some 1) none=nats (restP ps rn i):=by
          have h1:cutV (nats F) (some ((1:Nat):Int)) none=(nats F).drop 1:=cutV_drop _ 1 (by rw [nats_len]; omega)
          have h2:restP ps rn i=F.drop 1:=by
           unfold restP Mx.restN
           rw [if_pos c,hF]
          rw [h2]
          unfold nats at *
          rw [List.map_drop]
          exact h1
         obtain ⟨u1,u2,u3⟩:=up .non p _ (by unfold lastO; rw [if_pos c]; rfl) fp hL
         exact fin p _ u1 u2 u3
       · have ci:¬ decide ((i:Int)=((stR ps 0:Nat):Int))=true:=by simp; omega
         rw [if_neg ci]
         refine ⟨_,SqL.of h6,_,atI_getLast (nats_last hFl),_,hdt7,ll,rfl,?_⟩
         rw [if_neg ci]
         refine ⟨_,SqL.of (by rw [upd_ne ndD]; exact h6),fun p fp=>?_⟩
         have hL:cutV (nats F) none (some (-1))=nats (restP ps rn i):=by
          have h2:restP ps rn i=F.dropLast:=by
           unfold restP Mx.restN
           rw [if_neg c,hF]
          rw [h2,cutV_dropLast _ (by rw [nats_len]; omega)]
          unfold nats
          rw [List.map_dropLast]
         obtain ⟨u1,u2,u3⟩:=up _ p _ (by unfold lastO; rw [if_neg c]; rfl) fp hL
         exact fin p _ u1 u2 u3
   · rintro σ H5 ⟨v1,v2,v3,rfl,s5,h5⟩
     rw [Int.toNat_natCast] at *
     open_k with []
     rw [List.take_of_length_le (by rw [treeV_len]; omega)] at h5
     refine ⟨x,l,dt,as,n,stR ps 0,ps,lastsP ps rn,rfl,N.same (s03.trans s5),h5,hs0,fun j hj _=>(lasts_some hok hR hj).2,lasts_leads hok hR,fun H6 tn s6 htn=>⟨_,rfl,⟨?_,prod_big hends (by omega) (by omega)⟩,?_⟩⟩
     · have hlt:tn < (Mx.trs n (enR n ps) (gvL ps (others n (stR ps 0)))).length:=(List.getElem?_eq_some_iff.mp htn).1
       have hcn:=trs_cnt (ps:=ps) (n:=n) hends hs0
       exact big_of (b:=cntT n ps (stR ps 0)) (by omega) (cnt_big (by omega) (by omega))
     · have e:((tn:Int) * ((Mx.prodTo (degP ps) n:Nat):Int)+((Mx.sumTo (degP ps) (digP ps rn) n:Nat):Int))=((tn * Mx.prodTo (degP ps) n+Mx.sumTo (degP ps) (digP ps rn) n:Nat):Int):=by push_cast; rfl
       rw [e]
       exact q H6 tn ((s03.trans s5).trans s6) htn
end
end Rb
namespace Rb
open PySem L2
section
variable {CX:CXT} {P:Program} {w:World} {K:PySem.W.Frag} {mg:Str→Option Value} {base:Heap} {t:Adr}
def cellOf (ns:List Int) (k:Int):Int:=ns.getD k.toNat 0
def sp_cell_at (K:PySem.W.Frag):Sp:=fun vs H Q _=>∃ (a:Addr) (ns:List Int) (k:Int),vs=[.ref a,.int k]∧SqL K H a (ns.map V.int)∧0≤k∧Q (.int (cellOf ns k)) H
theorem ok_o (c0:NoX CX) (T:Txt K mg t):FnOk P w K mg base CX 1 t.f_o t.d_o ["script","k"] (sp_cell_at K):=by
 refine T.F_o.okX sc_o (fun vs H Q E h=>?_) (fun cdv A outer s H vs Q E hr h=>?_)
 · obtain ⟨a,ns,k,rfl,_⟩:=h
   rfl
 · obtain ⟨a,ns,k,rfl,hs,hk,q⟩:=h
   refine ⟨_,(pss_cons (ps_if (pt_cmpR op_lt (pv 1) (pe_callB call_len (by rfl) T.n_len (by decide +kernel:bootBuiltins "len"=some (.builtin "len")) (pa_cons (pv 0) pa_nil)) (nomark _))
 (pss_one (ps_ret (pe_ix ix_list (pv 0) (pv 1) (fun _ _=>rfl))))
 pss_nil)
 (pss_one (ps_ret pe_int))),?_⟩
   open_k with [rIxL]
   refine ⟨_,lenL hs,?_⟩
   rw [List.length_map]
   by_cases h:k < (ns.length:Int)
   · rw [if_pos (decide_eq_true h)]
     have hk':ns[k.toNat]?=some (cellOf ns k):=by
      unfold cellOf
      rw [List.getD_eq_getElem?_getD,List.getElem?_eq_getElem (by omega)]
      rfl
     refine ⟨_,hs,_,?_,q⟩
     have e:k=((k.toNat:Nat):Int):=by omega
     rw [e]
     refine atI_nat ?_
     rw [List.getElem?_map,hk']
     have e2:cellOf ns ((k.toNat:Nat):Int)=cellOf ns k:=by rw [← e]
     rw [e2]
     rfl
   · rw [if_neg (by simp [h])]
     have e:cellOf ns k=0:=by
      unfold cellOf
      rw [List.getD_eq_getElem?_getD,List.getElem?_eq_none (by omega)]
      rfl
     rw [← e]; exact q
def sp_whole:Sp:=fun vs H Q _=>∃ (i:Int),vs=[.int i]∧Q (.bl true) H
theorem ok_c1 (c0:NoX CX) (T:Txt K mg t):FnOk P w K mg base CX 1 t.f_c1 t.d_c1 ["found"] sp_whole:=by
 refine T.F_c1.okX sc_c1 (fun vs H Q E h=>?_) (fun cdv A outer s H vs Q E hr h=>?_)
 · obtain ⟨i,rfl,_⟩:=h
   rfl
 · obtain ⟨i,rfl,q⟩:=h
   refine ⟨_,(pss_one (ps_ret (pe_and (pe_callB call_isi (by rfl) T.n_isinstance (by decide +kernel:bootBuiltins "isinstance"=some (.builtin "isinstance")) (pa_cons (pv 0) (pa_cons (pe_bltn (v:=V.ty "int") (by rfl) T.n_int (by decide +kernel:bootBuiltins "int"=some (.type "int")) rfl) pa_nil))) (pe_one (pe_not (pe_callB call_isi (by rfl) T.n_isinstance (by decide +kernel:bootBuiltins "isinstance"=some (.builtin "isinstance")) (pa_cons (pv 0) (pa_cons (pe_bltn (v:=V.ty "bool") (by rfl) T.n_bool (by decide +kernel:bootBuiltins "bool"=some (.type "bool")) rfl) pa_nil)))))))),?_⟩
   open_k with []
   exact ⟨_,TyOf.int i,true,isi_tt tt_int_int,iteT ⟨_,TyOf.int i,false,isi_tt tt_int_bool,q⟩⟩
def sp_many_words:Sp:=fun vs H Q _=>∃ s k:Nat,vs=[.int s,.int k]∧s≤6∧k≤6∧Q (.int ((s ^ k:Nat):Int)) H
theorem pow_small {s i:Nat} (hs:s≤6) (hi:i≤6):s ^ i≤46656:=Nat.le_trans (Nat.pow_le_pow_left hs i) (Nat.le_trans (Nat.pow_le_pow_right (by decide) hi) (by decide))
theorem ok_j1 (c0:NoX CX) (T:Txt K mg t):FnOk P w K mg base CX 1 t.f_j1 t.d_j1 ["signs","size"] sp_many_words:=by
 refine T.F_j1.okX sc_j1 (fun vs H Q E h=>?_) (fun cdv A outer s H vs Q E hr h=>?_)
 · obtain ⟨s,k,rfl,_⟩:=h
   rfl
 · obtain ⟨m,k,rfl,hm,hk,q⟩:=h
   refine ⟨_,(pss_cons (ps_set (i:=2) sc_j1.nd (by rfl) (Or.inl rfl) pe_int)
 (pss_cons (ps_for PassesOwn.never (by rfl) (pi_range1 (by rfl) T.n_range (pa_cons (pv 1) pa_nil)) (pg_name (i:=3) sc_j1.nd (by rfl) (Or.inl rfl))
 (pss_one (ps_aug (i:=2) sc_j1.nd (by rfl) (Or.inl rfl) (pv 0) iop_mul)))
 (pss_one (ps_ret (pv 2))))),?_⟩
   open_k with []
   refine ⟨by omega,by omega,forb_range (fun i σ H'=>∃ v,σ=[some (.int m),some (.int k),some (.int ((m ^ i:Nat):Int)),v]∧H'=H) ⟨none,rfl,rfl⟩ ?_ ?_⟩
   · rintro i σ H1 hi ⟨v,rfl,rfl⟩
     rw [Int.toNat_natCast] at hi
     have:=pow_small (i:=i) hm (by omega)
     open_k with [tAug]
     refine ⟨Or.inl ⟨by omega,by omega⟩,?_⟩
     have e:((m ^ i:Nat):Int) * (m:Int)=((m ^ (i+1):Nat):Int):=by rw [Nat.pow_succ,Int.natCast_mul]
     exact e
   · rintro σ H1 ⟨v,rfl,rfl⟩
     rw [Int.toNat_natCast]
     open_k with []
     exact q
def sp_check_words:Sp:=fun vs H Q _=>∃ s k:Nat,vs=[.int s,.int k]∧WOk s k∧Q .non H
theorem ok_b1 (c0:NoX CX) (T:Txt K mg t):FnOk P w K mg base CX 2 t.f_b1 t.d_b1 ["signs","size"] sp_check_words:=by
 refine T.F_b1.okX sc_b1 (fun vs H Q E h=>?_) (fun cdv A outer s H vs Q E hr h=>?_)
 · obtain ⟨m,k,rfl,_⟩:=h
   rfl
 · obtain ⟨m,k,rfl,W,q⟩:=h
   obtain ⟨a1,a2,a3,a4,a5,a6,a7,a8⟩:=W.b1
   refine ⟨_,(pss_cons (ps_if (pt_not (pt_chain op_le op_le pe_int (pv 0) (pe_glob (by rfl) T.m_MOST_SIGNS T.r_MOST_SIGNS)))
 (pss_one ps_never)
 pss_nil)
 (pss_cons (ps_if (pt_not (pt_chain op_le op_le pe_int (pv 1) (pe_glob (by rfl) T.m_MOST_SIZE T.r_MOST_SIZE)))
 (pss_one ps_never)
 pss_nil)
 (pss_one (ps_if (pt_cmpR op_gt (pe_call (ok_j1 c0 T) (hr.mono (by decide)) (by rfl) T.m_j1 T.F_j1.kp T.b_j1 .nil (pass1 c0) (pa_cons (pv 0) (pa_cons (pv 1) pa_nil))) (pe_glob (by rfl) T.m_MOST_WORDS T.r_MOST_WORDS) (nomark _))
 (pss_one ps_never)
 pss_nil)))),?_⟩
   open_k with []
   rw [if_pos (decide_eq_true (by omega)),if_neg (by simp; omega),if_pos (decide_eq_true (by omega)),if_neg (by simp; omega)]
   refine ⟨m,k,rfl,by omega,by omega,_,rfl,?_⟩
   rw [decide_eq_false (by omega),if_neg (by decide)]
   exact q
def sp_word_net (C:Addr):Sp:=fun vs H Q _=>∃ s k:Nat,vs=[.int s,.int k]∧WOk s k∧∀ (x l:Addr) (as:List Addr) (H':Hp),Same H H'→H x=none→NetAt C H' x l as ((s ^ (k - 1):Nat):Int) (wN s k)→Q (.ref x) H'
theorem ok_r1 (c0:NoX CX) (T:Txt K mg t):FnOk P w K mg base CX 6 t.f_r1 t.d_r1 ["signs","size"] (sp_word_net t.C_Net):=by
 refine T.F_r1.okX sc_r1 (fun vs H Q E h=>?_) (fun cdv A outer s H vs Q E hr h=>?_)
 · obtain ⟨m,k,rfl,_⟩:=h
   rfl
 · obtain ⟨m,k,rfl,W,q⟩:=h
   obtain ⟨a1,a2,a3,a4,a5,a6,a7,a8⟩:=W.b1
   have ek:(k:Int) - 1=((k - 1:Nat):Int):=by omega
   refine ⟨_,(pss_cons (ps_expr (pe_call (ok_b1 c0 T) (hr.mono (by decide)) (by rfl) T.m_b1 T.F_b1.kp T.b_b1 .nil (pass1 c0) (pa_cons (pv 0) (pa_cons (pv 1) pa_nil))))
 (pss_cons (ps_set (i:=2) sc_r1.nd (by rfl) (Or.inr rfl) (pe_call (ok_j1 c0 T) (hr.mono (by decide)) (by rfl) T.m_j1 T.F_j1.kp T.b_j1 .nil (pass1 c0) (pa_cons (pv 0) (pa_cons (pe_op op_sub (pv 1) pe_int) pa_nil))))
 (pss_one (ps_ret (pe_make T.mk_Net (ok_l c0 T) (hr.mono (by decide)) (by rfl) T.m_Net T.b_l .nil (pass1 c0) (pa_cons (pv 2) (pa_cons (pe_comp (own:=(["word"]:List Str)) (fr:=(["signs","places"]:List Str)) (ix:=([0,2]:List Nat)) (by rfl) ⟨by rfl,by decide +kernel,by rfl,by rfl,by rfl⟩ (pi_range1 (by rfl) T.n_range (pa_cons (pe_call (ok_j1 c0 T) (hr.mono (by decide)) (by rfl) T.m_j1 T.F_j1.kp T.b_j1 .nil (pass1 c0) (pa_cons (pv 0) (pa_cons (pv 1) pa_nil))) pa_nil)) (fun _=>(pg_name (i:=0) (show List.Nodup (["word","signs","places"]:List Str) by decide +kernel) (by rfl) (Or.inl rfl))) (fun _ hB=>pts_nil) (fun _ hB=>(pe_tup (pa_cons (pe_op op_fdiv (pv 0) (pv 1)) (pa_cons (pe_op op_mod (pv 0) (pv 2)) pa_nil))))) pa_nil))))))),?_⟩
   open_k with []
   rw [ek]
   have et:∀ i,i < m ^ k→(wN m k).take (i+1)=(wN m k).take i++[((i:Int) / (m:Int),(i:Int) % ((m ^ (k - 1):Nat):Int))]:=fun i hi=>by
    rw [List.take_add_one]
    congr 1
    have:(wN m k)[i]?=some (((i / m:Nat):Int),((i % m ^ (k - 1):Nat):Int)):=by
     unfold wN
     rw [List.getElem?_map,List.getElem?_range hi]
     rfl
    rw [this,Int.natCast_ediv,Int.natCast_emod]
    rfl
   refine ⟨m,k,rfl,W,m,k - 1,rfl,by omega,by omega,m,k,rfl,by omega,by omega,_,rfl,by omega,by omega,blk_range (fun i ys σ H'=>∃ u as,σ=[u,some (.int m),some (.int ((m ^ (k - 1):Nat):Int))]∧Same H H'∧ys=as.map V.ref∧TupsAt H' as ((wN m k).take i)) (by rw [Int.toNat_natCast]; exact small_le (by omega)) ⟨none,[],rfl,Same.refl _,rfl,.nil⟩ ?_ ?_ ?_⟩
   · rintro i ys σ H1 hi ⟨u,as,rfl,s1,rfl,ht⟩
     rw [List.length_map,ht.len,List.length_take]
     omega
   · rintro bk i ys σ H1 hi ⟨u,as,rfl,s1,rfl,ht⟩
     rw [Int.toNat_natCast] at hi
     open_k with [Int.zero_add]
     refine ⟨⟨by omega,by omega⟩,by omega,by decide,fun p fp=>⟨s1.upd' fp,as++[p],by simp,?_⟩⟩
     rw [et i hi]
     exact (ht.same (Same.new fp)).append (.cons upd_same .nil)
   · rintro ys σ H1 D ⟨u,as,rfl,s1,rfl,ht⟩ hD x dx fx fdx ndx
     rw [Int.toNat_natCast,List.take_of_length_le (by rw [wN_len]; exact Nat.le_refl _)] at ht
     have s2:=s1.upd' (o:=.lst (as.map V.ref)) hD
     have hd:upd H1 D (.lst (as.map V.ref)) D=some (.lst (as.map V.ref)):=upd_same
     have ht2:=ht.same (Same.new (o:=.lst (as.map V.ref)) hD)
     generalize upd H1 D (.lst (as.map V.ref))=H2 at *
     have s3:Same H2 (upd (upd H2 dx (.own x)) x (.ins t.C_Net dx [])):=fun b o e=>by
      rw [upd_ne (ne_of_none e fx),upd_ne (ne_of_none e fdx)]
      exact e
     exact ⟨x,dx,D,wN m k,((m ^ (k - 1):Nat):Int),rfl,upd_same,⟨as,SqL.of (s3 _ _ hd),ht2.same s3⟩,W.ok,fun l as' H' fl k' N=>⟨rfl,q x l as' H' (fun b o e=>k' b o (s3 _ _ (s2 _ _ e)) (ne_of_none (s2 _ _ e) fx)) (s2.free fx) N⟩⟩
end
end Rb
namespace Rb
open PySem L2
section
variable {CX:CXT} {P:Program} {w:World} {K:PySem.W.Frag} {mg:Str→Option Value} {base:Heap} {t:Adr}
theorem lasts_of {n:Nat} {ps:List Pr} (hok:netOk n ps=true) (hu:unlikeOf n ps=[]) {c:Nat→Nat} (hc:∀ j,j < n→j ≠ stR ps 0→c j∈exitsOf ps j) (ld:Mx.leads n (stR ps 0) (enR n ps) c) (num:Nat):∀ p,p < n→p ≠ stR ps 0→lastsP ps (ringP n ps c num) p=c p:=fun p hp hne=>by
 have h:=(ringP_is hok hu hc ld num).2 p hp
 unfold lastsP
 rw [h]
 unfold Mx.ordr
 rw [if_neg hne]
 simp
theorem digits_of {n:Nat} {ps:List Pr} (hok:netOk n ps=true) (hu:unlikeOf n ps=[]) {c:Nat→Nat} (hc:∀ j,j < n→j ≠ stR ps 0→c j∈exitsOf ps j) (ld:Mx.leads n (stR ps 0) (enR n ps) c) (num:Nat):∀ p,p < n→digP ps (ringP n ps c num) p=num / Mx.prodTo (degP ps) p % degP ps p:=fun p hp=>by
 obtain ⟨_,_,he,_⟩:=netOk_parts hok
 have h:=(ringP_is hok hu hc ld num).2 p hp
 have d:=Mx.digit_of (netN_of hok) (c:=c) (num:=num / Mx.prodTo (degP ps) p) hp (fun hne=>by rw [exN_eq he]; exact hc p hp hne)
 rw [degB_eq he] at d
 unfold digP restP Mx.restN
 rw [h]
 by_cases e:p=stR ps 0
 · simp only [if_pos e] at d ⊢
   exact d
 · simp only [if_neg e] at d ⊢
   rw [lasts_of hok hu hc ld num p hp e]
   exact d
theorem sum_of {n:Nat} {ps:List Pr} (hok:netOk n ps=true) (hu:unlikeOf n ps=[]) {c:Nat→Nat} (hc:∀ j,j < n→j ≠ stR ps 0→c j∈exitsOf ps j) (ld:Mx.leads n (stR ps 0) (enR n ps) c) {num:Nat} (hn:num < Mx.prodTo (degP ps) n):Mx.sumTo (degP ps) (digP ps (ringP n ps c num)) n=num:=by
 have h:∀ k,k≤n→Mx.sumTo (degP ps) (digP ps (ringP n ps c num)) k=Mx.sumTo (degP ps) (fun p=>num / Mx.prodTo (degP ps) p % degP ps p) k:=by
  intro k
  induction k with
  | zero=>intro _; rfl
  | succ k ih =>
   intro hk
   show Mx.sumTo (degP ps) _ k+Mx.prodTo (degP ps) k * digP ps (ringP n ps c num) k=Mx.sumTo (degP ps) _ k+Mx.prodTo (degP ps) k * (num / Mx.prodTo (degP ps) k % degP ps k)
   rw [ih (by omega),digits_of hok hu hc ld num k (by omega)]
 rw [h n (Nat.le_refl _),Mx.sum_digits,Nat.mod_eq_of_lt hn]
theorem listT_congr {n g m:Nat} {c d:Nat→Nat} (h:∀ i,i < n→i ≠ g→c i=d i):listT n g m c=listT n g m d:=by
 unfold listT
 refine List.map_congr_left fun i hi=>?_
 by_cases e:i=g
 · rw [if_pos e,if_pos e]
 · rw [if_neg e,if_neg e,h i (List.mem_range.mp hi) e]
theorem number_back {n:Nat} {ps:List Pr} (hok:netOk n ps=true) (hu:unlikeOf n ps=[]) (hs0:stR ps 0 < n) {num tn:Nat} {c:List Nat} (hc:(Mx.trs n (enR n ps) (gvL ps (others n (stR ps 0))))[num / Mx.prodTo (degP ps) n]?=some c)
 (ht:(Mx.trs n (enR n ps) (gvL ps (others n (stR ps 0))))[tn]?=some (listT n (stR ps 0) ps.length (lastsP ps (ringP n ps (Mx.ofL c) (num % Mx.prodTo (degP ps) n))))):tn * Mx.prodTo (degP ps) n+Mx.sumTo (degP ps) (digP ps (ringP n ps (Mx.ofL c) (num % Mx.prodTo (degP ps) n))) n=num:=by
 obtain ⟨c1,c2,c3⟩:=trees_facts hok hs0 hc
 rw [listT_congr (lasts_of hok hu c1 c2 _),c3] at ht
 have e:tn=num / Mx.prodTo (degP ps) n:=Mx.trs_inj (fun i _=>gvL_sorted i) ht hc
 rw [sum_of hok hu c1 c2 (Nat.mod_lt _ (prod_pos ps n)),e,Nat.mul_comm]
 exact Nat.div_add_mod num _
theorem wok_cnt {s k:Nat} (W:WOk s k):cntT (s ^ (k - 1)) (wN s k) (stR (wN s k) 0) * ((Mx.prodTo (degP (wN s k)) (s ^ (k - 1)):Nat):Int)=((dueN s k:Nat):Int):=by
 obtain ⟨a1,a2,a3,a4,a5,a6,a7,a8⟩:=W.b1
 obtain ⟨_,_,he,_⟩:=netOk_parts W.ok
 rw [cntT_run he a7 (by rw [wN_len]; exact a5) W.tr,← Int.natCast_mul,W.du.1]
def sp_many_word_rings:Sp:=fun vs H Q _=>∃ s k:Nat,vs=[.int s,.int k]∧WOk s k∧∀ H':Hp,Same H H'→Q (.int (dueN s k:Nat)) H'
theorem ok_g (c0:NoX CX) (T:Txt K mg t):FnOk P w K mg base CX 8 t.f_g t.d_g ["signs","size"] sp_many_word_rings:=by
 refine T.F_g.okX sc_g (fun vs H Q E h=>?_) (fun cdv A outer s H vs Q E hr h=>?_)
 · obtain ⟨m,k,rfl,_⟩:=h
   rfl
 · obtain ⟨m,k,rfl,W,q⟩:=h
   refine ⟨_,(pss_one (ps_ret (pe_call (ok_i1 c0 T) (hr.mono (by decide)) (by rfl) T.m_i1 T.F_i1.kp T.b_i1 .nil (pass1 c0) (pa_cons (pe_call (ok_r1 c0 T) (hr.mono (by decide)) (by rfl) T.m_r1 T.F_r1.kp T.b_r1 .nil (pass1 c0) (pa_cons (pv 0) (pa_cons (pv 1) pa_nil))) pa_nil)))),?_⟩
   open_k with []
   refine ⟨m,k,rfl,W,fun x l as H1 s1 fx N=>⟨x,l,as,m ^ (k - 1),wN m k,rfl,N,W.un,W.ap,fun H2 s2=>?_⟩⟩
   rw [wok_cnt W]
   exact q H2 (s1.trans s2)
def OfNum (s k num:Nat) (rn:List Nat):Prop:=∃ c:List Nat,(Mx.trs (s ^ (k - 1)) (enR (s ^ (k - 1)) (wN s k)) (gvL (wN s k) (others (s ^ (k - 1)) (stR (wN s k) 0))))[num / Mx.prodTo (degP (wN s k)) (s ^ (k - 1))]?=some c∧rn=ringP (s ^ (k - 1)) (wN s k) (Mx.ofL c) (num % Mx.prodTo (degP (wN s k)) (s ^ (k - 1)))
theorem wok_hs0 {s k:Nat} (W:WOk s k):stR (wN s k) 0 < s ^ (k - 1):=by
 obtain ⟨_,⟨l1,_⟩,he,_⟩:=netOk_parts W.ok
 exact (stR_cast he (by omega)).2
theorem OfNum.ring {s k num:Nat} {rn:List Nat} (W:WOk s k) (h:OfNum s k num rn):Mx.isRing (wN s k).length (stR (wN s k)) (enR (s ^ (k - 1)) (wN s k)) rn:=by
 obtain ⟨c,hc,rfl⟩:=h
 obtain ⟨c1,c2,c3⟩:=trees_facts W.ok (wok_hs0 W) hc
 exact (ringP_is W.ok W.un c1 c2 _).1
theorem OfNum.rw {s k num:Nat} {rn:List Nat} (W:WOk s k) (h:OfNum s k num rn):RW s k rn:=by
 obtain ⟨rn',e,h1,h2,h3⟩:=ring_RingP (h.ring W)
 have:rn'=rn:=(intsOf_inj e).symm
 subst this
 exact RW.of W h1 h2 h3
def sp_word_ring:Sp:=fun vs H Q _=>∃ s k num:Nat,vs=[.int s,.int k,.int num]∧WOk s k∧num < dueN s k∧∀ (d:Addr) (H':Hp) (rn:List Nat),Same H H'→H d=none→OfNum s k num rn→H' d=some (.lst (nats (rn.map (· % s))))→Q (.ref d) H'
theorem ok_m1 (c0:NoX CX) (T:Txt K mg t):FnOk P w K mg base CX 8 t.f_m1 t.d_m1 ["signs","size","number"] sp_word_ring:=by
 refine T.F_m1.okX sc_m1 (fun vs H Q E h=>?_) (fun cdv A outer s H vs Q E hr h=>?_)
 · obtain ⟨m,k,num,rfl,_⟩:=h
   rfl
 · obtain ⟨m,k,num,rfl,W,hn,q⟩:=h
   obtain ⟨a1,a2,a3,a4,a5,a6,a7,a8⟩:=W.b1
   refine ⟨_,(pss_one (ps_ret (pe_comp (own:=(["word"]:List Str)) (fr:=(["signs"]:List Str)) (ix:=([0]:List Nat)) (by rfl) ⟨by rfl,by decide +kernel,by rfl,by rfl,by rfl⟩ (pi_list (pe_call (ok_v1 c0 T) (hr.mono (by decide)) (by rfl) T.m_v1 T.F_v1.kp T.b_v1 .nil (pass1 c0) (pa_cons (pe_call (ok_r1 c0 T) (hr.mono (by decide)) (by rfl) T.m_r1 T.F_r1.kp T.b_r1 .nil (pass1 c0) (pa_cons (pv 0) (pa_cons (pv 1) pa_nil))) (pa_cons (pv 2) pa_nil)))) (fun _=>(pg_name (i:=0) (show List.Nodup (["word","signs"]:List Str) by decide +kernel) (by rfl) (Or.inl rfl))) (fun _ hB=>pts_nil) (fun _ hB=>(pe_op op_mod (pv 0) (pv 1)))))),?_⟩
   open_k with []
   refine ⟨m,k,rfl,W,fun x l as H1 s1 fx N=>⟨x,l,as,m ^ (k - 1),num,wN m k,rfl,N,W.un,W.ap,by rw [wok_cnt W]; omega,fun d H2 c s2 fd hc hd=>?_⟩⟩
   have O:OfNum m k num (ringP (m ^ (k - 1)) (wN m k) (Mx.ofL c) (num % Mx.prodTo (degP (wN m k)) (m ^ (k - 1)))):=⟨c,hc,rfl⟩
   have R:=O.rw W
   generalize ringP (m ^ (k - 1)) (wN m k) (Mx.ofL c) (num % Mx.prodTo (degP (wN m k)) (m ^ (k - 1)))=rn at *
   have lr:=R.len
   have rlt:∀ z∈rn,z < m ^ k:=fun z hz=>List.mem_range.mp (R.pm.subset hz)
   refine ⟨d,rfl,⟨_,SqL.of hd⟩,blk_list (xs:=nats rn) (fun i ys σ H'=>∃ u,σ=[u,some (.int m)]∧H'=H2∧ys=nats ((rn.take i).map (· % m))) (by rw [nats_len]; exact small_le (by omega)) ⟨none,rfl,rfl,rfl⟩ ?_ ?_ ?_⟩
   · rintro i ys σ H3 hi ⟨u,rfl,rfl,rfl⟩
     exact ⟨SqL.of hd,by rw [nats_len]; simp; omega⟩
   · rintro bk i y ys σ H3 hy ⟨u,rfl,rfl,rfl⟩
     obtain ⟨z,hz,rfl⟩:=nats_get hy
     open_k with []
     refine ⟨by omega,?_⟩
     rw [List.take_add_one,hz,List.map_append,nats_append,← Int.natCast_emod]
     rfl
   · rintro ys σ H3 D ⟨u,rfl,rfl,rfl⟩ hD
     rw [nats_len,List.take_length]
     exact q D _ rn ((s1.trans s2).upd' hD) ((s1.trans s2).free hD) O upd_same
def endN (s k:Nat) (zs:List Nat) (i:Nat):List Nat:=(List.range k).map fun j=>zs.getD ((i+zs.length * k+1 - k+j) % zs.length) 0
theorem val_lt {s:Nat} (hs:1≤s):∀ (l:List Nat) (a:Nat),(∀ z∈l,z < s)→l.foldl (fun a d=>a * s+d) a < (a+1) * s ^ l.length
 | [],a,_=>by simp
 | x :: l,a,h=>by
  have h1:=val_lt hs l (a * s+x) fun z hz=>h z (List.mem_cons_of_mem _ hz)
  have h2:=h x (List.mem_cons_self ..)
  refine Nat.lt_of_lt_of_le h1 ?_
  rw [List.length_cons,Nat.pow_succ,Nat.mul_comm (s ^ l.length) s,← Nat.mul_assoc]
  exact Nat.mul_le_mul_right _ (by rw [Nat.add_mul]; omega)
def sp_word_ending (K:PySem.W.Frag):Sp:=fun vs H Q _=>∃ (s k:Nat) (r:Addr) (zs:List Nat) (i:Nat),vs=[.int s,.int k,.ref r,.int i]∧1≤s∧s≤6∧k≤6∧SqL K H r (nats zs)∧i < zs.length∧zs.length≤64∧(∀ z∈zs,z < s)∧Q (.int (val s (endN s k zs i):Nat)) H
theorem ok_k (c0:NoX CX) (T:Txt K mg t):FnOk P w K mg base CX 1 t.f_k t.d_k ["signs","size","ring","last"] (sp_word_ending K):=by
 refine T.F_k.okX sc_k (fun vs H Q E h=>?_) (fun cdv A outer s H vs Q E hr h=>?_)
 · obtain ⟨m,k,r,zs,i,rfl,_⟩:=h
   rfl
 · obtain ⟨m,k,r,zs,i,rfl,m1,m2,k2,hz,hi,h64,hs,q⟩:=h
   refine ⟨_,(pss_cons (ps_set (i:=4) sc_k.nd (by rfl) (Or.inl rfl) pe_int)
 (pss_cons (ps_for PassesOwn.never (by rfl) (pi_range2 (by rfl) T.n_range (pa_cons (pe_op op_add (pe_op op_sub (pv 3) (pv 1)) pe_int) (pa_cons (pe_op op_add (pv 3) pe_int) pa_nil))) (pg_name (i:=5) sc_k.nd (by rfl) (Or.inl rfl))
 (pss_one (ps_set (i:=4) sc_k.nd (by rfl) (Or.inl rfl) (pe_op op_add (pe_op op_mul (pv 4) (pv 0)) (pe_ix ix_list (pv 2) (pe_op op_mod (pv 5) (pe_callB call_len (by rfl) T.n_len (by decide +kernel:bootBuiltins "len"=some (.builtin "len")) (pa_cons (pv 2) pa_nil))) (fun _ _=>rfl))))))
 (pss_one (ps_ret (pv 4))))),?_⟩
   open_k with []
   have e2:((i:Int)+1 - ((i:Int) - (k:Int)+1)).toNat=k:=by omega
   rw [e2]
   have zk:∀ j,zs.getD (j % zs.length) 0 < m:=fun j=>by
    rw [List.getD_eq_getElem?_getD,List.getElem?_eq_getElem (Nat.mod_lt _ (by omega))]
    exact hs _ (List.getElem_mem _)
   have hv:∀ j,j≤k→val m ((endN m k zs i).take j)≤46656:=fun j hj=>by
    have h1:=val_lt m1 ((endN m k zs i).take j) 0 fun z hz=>by
     obtain ⟨j',_,rfl⟩:=List.mem_map.mp (List.mem_of_mem_take hz)
     exact zk _
    have h2:((endN m k zs i).take j).length≤6:=by rw [List.length_take]; unfold endN; rw [List.length_map,List.length_range]; omega
    have h3:=pow_small (s:=m) m2 h2
    rw [Nat.zero_add,Nat.one_mul] at h1
    show List.foldl _ _ _≤_
    omega
   refine ⟨by omega,by omega,by omega,by omega,forb_range (fun j σ H'=>∃ v,σ=[some (.int m),some (.int k),some (.ref r),some (.int i),some (.int (val m ((endN m k zs i).take j):Nat)),v]∧H'=H) ⟨none,rfl,rfl⟩ ?_ ?_⟩
   · rintro j σ H1 hj ⟨v,rfl,rfl⟩
     have e3:((i:Int) - (k:Int)+1+(j:Int)) % ((zs.length:Nat):Int)=(((i+zs.length * k+1 - k+j) % zs.length:Nat):Int):=by
      have hk:k≤zs.length * k:=Nat.le_mul_of_pos_left _ (by omega)
      have:(i:Int) - (k:Int)+1+(j:Int)=((i+zs.length * k+1 - k+j:Nat):Int)+((zs.length:Nat):Int) * (-(k:Int)):=by
       have:((zs.length * k:Nat):Int)=((zs.length:Nat):Int) * (k:Int):=Int.natCast_mul _ _
       rw [Int.mul_neg,← this]
       omega
      rw [this,Int.add_mul_emod_self_left,Int.natCast_emod]
     have hlt:(i+zs.length * k+1 - k+j) % zs.length < zs.length:=Nat.mod_lt _ (by omega)
     have he:(endN m k zs i)[j]?=some (zs.getD ((i+zs.length * k+1 - k+j) % zs.length) 0):=by
      unfold endN
      rw [List.getElem?_map,List.getElem?_range hj]
      rfl
     have h1:=hv j (by omega)
     have h2:=zk (i+zs.length * k+1 - k+j)
     have h3:=hv (j+1) (by omega)
     open_k with [rIxL]
     refine ⟨Or.inl ⟨by omega,by omega⟩,_,lenL hz,by rw [nats_len]; omega,_,hz,.int (zs.getD ((i+zs.length * k+1 - k+j) % zs.length) 0:Nat),?_,_,rfl,?_⟩
     · rw [nats_len,e3]
       refine atI_nat ?_
       unfold nats
       rw [List.getElem?_map,List.getD_eq_getElem?_getD,List.getElem?_eq_getElem hlt]
       rfl
     · have ev:val m ((endN m k zs i).take (j+1))=val m ((endN m k zs i).take j) * m+zs.getD ((i+zs.length * k+1 - k+j) % zs.length) 0:=by
        rw [List.take_add_one,he]
        unfold val
        rw [List.foldl_append]
        rfl
       rw [ev]
       push_cast
       rfl
   · rintro σ H1 ⟨v,rfl,rfl⟩
     open_k with []
     rw [List.take_of_length_le (by unfold endN; rw [List.length_map,List.length_range]; exact Nat.le_refl _)]
     exact q
theorem end_met {s k:Nat} {rn:List Nat} (R:RW s k rn) {i:Nat} (hi:i < s ^ k):val s (endN s k (rn.map (· % s)) i)=rn.getD i 0:=by
 have pos:=R.pos
 rw [← R.last hi]
 congr 1
 unfold endN metN
 refine List.map_congr_left fun j _=>?_
 rw [List.length_map,R.len]
 have hlt:(i+s ^ k * k+1 - k+j) % s ^ k < rn.length:=by rw [R.len]; exact Nat.mod_lt _ pos
 rw [List.getD_eq_getElem?_getD,List.getD_eq_getElem?_getD,List.getElem?_map,List.getElem?_eq_getElem hlt]
 rfl
def sp_word_ring_number (K:PySem.W.Frag):Sp:=fun vs H Q _=>∃ (s k num:Nat) (r:Addr) (rn:List Nat),vs=[.int s,.int k,.ref r]∧WOk s k∧SqL K H r (nats (rn.map (· % s)))∧OfNum s k num rn∧∀ (H':Hp),Same H H'→Q (.int (num:Nat)) H'
theorem ok_d (c0:NoX CX) (T:Txt K mg t):FnOk P w K mg base CX 8 t.f_d t.d_d ["signs","size","ring"] (sp_word_ring_number K):=by
 refine T.F_d.okX sc_d (fun vs H Q E h=>?_) (fun cdv A outer s H vs Q E hr h=>?_)
 · obtain ⟨m,k,num,r,rn,rfl,_⟩:=h
   rfl
 · obtain ⟨m,k,num,r,rn,rfl,W,hz,O,q⟩:=h
   obtain ⟨a1,a2,a3,a4,a5,a6,a7,a8⟩:=W.b1
   have R:=O.rw W
   have lr:=R.len
   have pos:=R.pos
   refine ⟨_,(pss_cons (ps_set (i:=3) sc_d.nd (by rfl) (Or.inl rfl) (pe_call (ok_r1 c0 T) (hr.mono (by decide)) (by rfl) T.m_r1 T.F_r1.kp T.b_r1 .nil (pass1 c0) (pa_cons (pv 0) (pa_cons (pv 1) pa_nil))))
 (pss_cons (ps_if (pt_not (pt_val (pe_callB (call_all (by rfl)) (by rfl) T.n_all (by decide +kernel:bootBuiltins "all"=some (.builtin "all")) (pa_cons (pe_comp (own:=(["sign"]:List Str)) (fr:=(["signs"]:List Str)) (ix:=([0]:List Nat)) (by rfl) ⟨by rfl,by decide +kernel,by rfl,by rfl,by rfl⟩ (pi_list (pv 2)) (fun _=>(pg_name (i:=0) (show List.Nodup (["sign","signs"]:List Str) by decide +kernel) (by rfl) (Or.inl rfl))) (fun _ hB=>pts_nil) (fun _ hB=>(pe_chain op_le op_lt pe_int (pv 0) (pv 1)))) pa_nil))))
 (pss_one ps_never)
 pss_nil)
 (pss_one (ps_ret (pe_call (ok_a1 c0 T) (hr.mono (by decide)) (by rfl) T.m_a1 T.F_a1.kp T.b_a1 .nil (pass1 c0) (pa_cons (pv 3) (pa_cons (pe_comp (own:=(["last"]:List Str)) (fr:=(["signs","size","ring"]:List Str)) (ix:=([0,1,2]:List Nat)) (by rfl) ⟨by rfl,by decide +kernel,by rfl,by rfl,by rfl⟩ (pi_range1 (by rfl) T.n_range (pa_cons (pe_callB call_len (by rfl) T.n_len (by decide +kernel:bootBuiltins "len"=some (.builtin "len")) (pa_cons (pv 2) pa_nil)) pa_nil)) (fun _=>(pg_name (i:=0) (show List.Nodup (["last","signs","size","ring"]:List Str) by decide +kernel) (by rfl) (Or.inl rfl))) (fun _ hB=>pts_nil) (fun _ hB=>(pe_call (ok_k c0 T) (hr.mono (by decide)) (by rfl) T.m_k T.F_k.kp T.b_k .nil (pass1 c0) (pa_cons (pv 1) (pa_cons (pv 2) (pa_cons (pv 3) (pa_cons (pv 0) pa_nil))))))) pa_nil))))))),?_⟩
   open_k with []
   refine ⟨m,k,rfl,W,fun x l as H1 s1 fx N=>?_⟩
   have hz1:=s1.seq hz
   refine ⟨⟨_,hz1⟩,blk_list (xs:=nats (rn.map (· % m))) (fun i ys σ H'=>∃ u,σ=[u,some (.int m)]∧H'=H1∧ys=(List.replicate i true).map V.bl) (by rw [nats_len,List.length_map]; exact small_le (by omega)) ⟨none,rfl,rfl,rfl⟩ ?_ ?_ ?_⟩
   · rintro i ys σ H2 hi ⟨u,rfl,rfl,rfl⟩
     exact ⟨hz1,by simp⟩
   · rintro bk i v ys σ H2 hv ⟨u,rfl,rfl,rfl⟩
     obtain ⟨z,hz2,rfl⟩:=nats_get hv
     have hzm:z < m:=by
      obtain ⟨y,_,rfl⟩:=List.mem_map.mp (List.mem_of_getElem? hz2)
      exact Nat.mod_lt _ (by omega)
     open_k with []
     rw [if_pos (decide_eq_true (by omega)),decide_eq_true (by omega)]
     rw [List.map_replicate,← List.replicate_succ',List.replicate_succ]
   · rintro ys σ H2 D ⟨u,rfl,rfl,rfl⟩ hD
     refine ⟨_,rfl,_,SqL.of upd_same,?_⟩
     have s2:=s1.upd' (o:=.lst ((List.replicate (nats (rn.map (· % m))).length true).map V.bl)) hD
     have s12:Same H2 (upd H2 D (.lst ((List.replicate (nats (rn.map (· % m))).length true).map V.bl))):=Same.new hD
     generalize upd H2 D (.lst ((List.replicate (nats (rn.map (· % m))).length true).map V.bl))=H3 at *
     rw [if_neg (by simp)]
     have hz3:=s2.seq hz
     have ln:(nats (rn.map (· % m))).length=m ^ k:=by rw [nats_len,List.length_map,lr]
     refine ⟨_,lenL hz3,by omega,by omega,blk_range (fun i ys σ H'=>∃ u,σ=[u,some (.int m),some (.int k),some (.ref r)]∧H'=H3∧ys=nats (rn.take i)) (by rw [Int.toNat_natCast,ln]; exact small_le (by omega)) ⟨none,rfl,rfl,rfl⟩ ?_ ?_ ?_⟩
     · rintro i ys σ H4 hi ⟨u,rfl,rfl,rfl⟩
       rw [nats_len]; simp; omega
     · rintro bk i ys σ H4 hi ⟨u,rfl,rfl,rfl⟩
       rw [Int.toNat_natCast,ln] at hi
       open_k with [Int.zero_add]
       refine ⟨m,k,r,_,i,rfl,a1,a2,a4,hz3,by rw [List.length_map]; omega,by rw [List.length_map]; omega,fun z hz=>?_,?_⟩
       · obtain ⟨y,_,rfl⟩:=List.mem_map.mp hz
         exact Nat.mod_lt _ (by omega)
       · refine ⟨rfl,?_⟩
         rw [end_met R hi,List.take_add_one,nats_append]
         congr 1
         rw [List.getD_eq_getElem?_getD,List.getElem?_eq_getElem (by omega)]
         rfl
     · rintro ys σ H4 D2 ⟨u,rfl,rfl,rfl⟩ hD2
       rw [Int.toNat_natCast,ln,List.take_of_length_le (by omega)]
       refine ⟨x,l,D2,as,m ^ (k - 1),wN m k,rn,rfl,N.same (s12.upd' hD2),upd_same,by rw [wN_len]; exact a5,O.ring W,fun H' tn s' ht=>?_⟩
       obtain ⟨c,hc,e⟩:=O
       rw [e] at ht ⊢
       rw [number_back W.ok W.un (wok_hs0 W) hc ht]
       exact q H' ((s2.upd' hD2).trans s')
end
end Rb
namespace Rb
open PySem L2
section
variable {CX:CXT} {P:Program} {w:World} {K:PySem.W.Frag} {mg:Str→Option Value} {base:Heap} {t:Adr}
theorem due_big {s i:Nat} (hs:s≤6) (hi:i≤64):Big (((Mx.fact s) ^ i:Nat):Int):=big_pow (Nat.lt_of_le_of_lt (Nat.le_trans (Nat.pow_le_pow_left (show Mx.fact s≤720 by
 match s,hs with
 | 0,_=>decide
 | 1,_=>decide
 | 2,_=>decide
 | 3,_=>decide
 | 4,_=>decide
 | 5,_=>decide
 | 6,_=>decide
 | s+7,h=>omega) i) (Nat.pow_le_pow_right (by decide) hi)) (by decide))
theorem big_small {j:Int} (h0:0≤j) (h1:j≤1000):Big j:=by
 obtain ⟨x,rfl⟩:∃ x:Nat,j=(x:Int):=⟨j.toNat,by omega⟩
 exact big_pow (Nat.lt_of_le_of_lt (show x≤1000 by omega) (Nat.lt_of_lt_of_le (by decide:1000 < 2 ^ 10) (Nat.pow_le_pow_right (by decide) (by decide))))
def sp_law_due:Sp:=fun vs H Q _=>∃ s k:Nat,vs=[.int s,.int k,.int ((s ^ k:Nat):Int)]∧WOk s k∧Q (.int (dueN s k:Nat)) H
theorem ok_n1 (c0:NoX CX) (T:Txt K mg t):FnOk P w K mg base CX 1 t.f_n1 t.d_n1 ["signs","size","many"] sp_law_due:=by
 refine T.F_n1.okX sc_n1 (fun vs H Q E h=>?_) (fun cdv A outer s H vs Q E hr h=>?_)
 · obtain ⟨m,k,rfl,_⟩:=h
   rfl
 · obtain ⟨m,k,rfl,W,q⟩:=h
   obtain ⟨a1,a2,a3,a4,a5,a6,a7,a8⟩:=W.b1
   have pos:1≤m ^ k:=Nat.pow_pos a1
   refine ⟨_,(pss_cons (ps_set (i:=3) sc_n1.nd (by rfl) (Or.inl rfl) pe_int)
 (pss_cons (ps_for PassesOwn.never (by rfl) (pi_range1 (by rfl) T.n_range (pa_cons (pv 0) pa_nil)) (pg_name (i:=4) sc_n1.nd (by rfl) (Or.inl rfl))
 (pss_one (ps_set (i:=3) sc_n1.nd (by rfl) (Or.inl rfl) (pe_op op_mulB (pv 3) (pe_op op_add (pv 4) pe_int)))))
 (pss_cons (ps_set (i:=5) sc_n1.nd (by rfl) (Or.inl rfl) pe_int)
 (pss_cons (ps_for PassesOwn.never (by rfl) (pi_range1 (by rfl) T.n_range (pa_cons (pe_op op_fdivB (pv 2) (pv 0)) pa_nil)) (pg_name (i:=4) sc_n1.nd (by rfl) (Or.inl rfl))
 (pss_one (ps_set (i:=5) sc_n1.nd (by rfl) (Or.inl rfl) (pe_op op_mulB (pv 5) (pv 3)))))
 (pss_one (ps_ret (pe_op op_fdivB (pv 5) (pv 2)))))))),?_⟩
   open_k with []
   refine ⟨by omega,by omega,forb_range (fun i σ H'=>∃ v,σ=[some (.int m),some (.int k),some (.int ((m ^ k:Nat):Int)),some (.int (Mx.fact i:Nat)),v,none]∧H'=H) ⟨none,rfl,rfl⟩ ?_ ?_⟩
   · rintro i σ H1 hi ⟨v,rfl,rfl⟩
     rw [Int.toNat_natCast] at hi
     have hb:=due_big (s:=i) (i:=1) (by omega) (by omega)
     rw [Nat.pow_one] at hb
     open_k with [Int.zero_add]
     refine ⟨⟨hb,big_small (by omega) (by omega)⟩,?_⟩
     have e:((Mx.fact i:Nat):Int) * ((i:Int)+1)=((Mx.fact (i+1):Nat):Int):=by
      show _=(((i+1) * Mx.fact i:Nat):Int)
      rw [Int.natCast_mul,Int.mul_comm]
      rfl
     rw [e]
   · rintro σ H1 ⟨v,rfl,rfl⟩
     rw [Int.toNat_natCast]
     have en:(((m ^ k:Nat):Int) / (m:Int))=((m ^ k / m:Nat):Int):=by rw [Int.natCast_ediv]
     have hle:m ^ k / m≤64:=Nat.le_trans (Nat.div_le_self _ _) a5
     have eD:dueN m k=(Mx.fact m) ^ (m ^ k / m) / m ^ k:=rfl
     generalize m ^ k / m=D at en hle eD
     open_k with []
     refine ⟨⟨by omega,big_small (by omega) (by omega)⟩,?_⟩
     rw [en]
     refine ⟨by omega,by omega,forb_range (fun i σ H'=>∃ v,σ=[some (.int m),some (.int k),some (.int ((m ^ k:Nat):Int)),some (.int (Mx.fact m:Nat)),v,some (.int (((Mx.fact m) ^ i:Nat):Int))]∧H'=H1) ⟨v,rfl,rfl⟩ ?_ ?_⟩
     · rintro i σ H2 hi ⟨v,rfl,rfl⟩
       rw [Int.toNat_natCast] at hi
       have hb:=due_big (s:=m) (i:=1) a2 (by omega)
       rw [Nat.pow_one] at hb
       open_k with []
       refine ⟨⟨due_big a2 (by omega),hb⟩,?_⟩
       rw [Nat.pow_succ,Int.natCast_mul]
     · rintro σ H2 ⟨v,rfl,rfl⟩
       rw [Int.toNat_natCast]
       open_k with []
       refine ⟨⟨by omega,big_small (by omega) (by omega)⟩,?_⟩
       have e:(((Mx.fact m) ^ D:Nat):Int) / ((m ^ k:Nat):Int)=((dueN m k:Nat):Int):=by
        rw [eD,Int.natCast_ediv]
       rw [e]
       exact q
def MidC (H:Hp) (c:Int) (L:List Pr) (σ:St) (H':Hp):Prop:=∃ (d:Addr) (as:List Addr),σ=[some (.int c),some (.ref d)]∧Same H H'∧H' d=some (.lst (as.map V.ref))∧TupsAt H' as L
def c7:List Pr:=[(1,1),(2,1),(2,2),(2,3),(2,4),(3,1),(3,2)]
def c14:List Pr:=c7++[(3,3),(4,1),(4,2),(5,1),(5,2),(1,6),(6,1)]
def c4:List Pr:=[(2,5),(4,3),(6,2),(2,6)]
def sp_choice:Sp:=fun vs H Q _=>∃ c:Int,vs=[.int c]∧∀ (p:Addr) (H':Hp) (s k:Nat),Same H H'→H' p=some (.tup [.int s,.int k])→WOk s k→Q (.ref p) H'
theorem c_wok:∀ q∈c14++c4,∃ s k:Nat,q=((s:Int),(k:Int))∧WOk s k:=fun q hq=>by
 have h:∃ r∈allW,q=((r.1:Int),(r.2:Int)):=by
  revert q
  decide
 obtain ⟨r,hr,e⟩:=h
 exact ⟨r.1,r.2,e,wok r hr⟩
seal L2.PE L2.PA L2.PS L2.PSs L2.PT in
theorem ok_s (c0:NoX CX) (T:Txt K mg t):FnOk P w K mg base CX 1 t.f_s t.d_s ["cell"] sp_choice:=by
 refine T.F_s.okX sc_s (fun vs H Q E h=>?_) (fun cdv A outer s H vs Q E hr h=>?_)
 · obtain ⟨c,rfl,_⟩:=h
   rfl
 · obtain ⟨c,rfl,q⟩:=h
   have fin:∀ (L:List Pr) (d p:Addr) (as:List Addr) (H':Hp) (i:Nat),(∀ x∈L,x∈c14++c4)→TupsAt H' as L→Same H H'→as[i]?=some p→Q (.ref p) H':=fun L d p as H' i hL ht s1 hi=>by
    have hl:=ht.len
    have hlt:i < L.length:=by
     obtain ⟨a,_⟩:=List.getElem?_eq_some_iff.mp hi
     omega
    obtain ⟨a,ha,hH⟩:=ht.get' (i:=i) (q:=L[i]) (by simp [hlt])
    rw [hi] at ha
    cases ha
    obtain ⟨s',k',e,hw⟩:=c_wok _ (hL _ (List.getElem_mem hlt))
    unfold pairO at hH
    rw [e] at hH
    exact q p H' s' k' s1 hH hw
   refine ⟨_,(pss_cons (ps_set (i:=1) sc_s.nd (by rfl) (Or.inl rfl) (pe_lst (pa_cons (pe_tup (pa_cons pe_int (pa_cons pe_int pa_nil))) (pa_cons (pe_tup (pa_cons pe_int (pa_cons pe_int pa_nil))) (pa_cons (pe_tup (pa_cons pe_int (pa_cons pe_int pa_nil))) (pa_cons (pe_tup (pa_cons pe_int (pa_cons pe_int pa_nil))) (pa_cons (pe_tup (pa_cons pe_int (pa_cons pe_int pa_nil))) (pa_cons (pe_tup (pa_cons pe_int (pa_cons pe_int pa_nil))) (pa_cons (pe_tup (pa_cons pe_int (pa_cons pe_int pa_nil))) pa_nil)))))))))
 (pss_cons (ps_set (i:=1) sc_s.nd (by rfl) (Or.inl rfl) (pe_op op_cat (pv 1) (pe_lst (pa_cons (pe_tup (pa_cons pe_int (pa_cons pe_int pa_nil))) (pa_cons (pe_tup (pa_cons pe_int (pa_cons pe_int pa_nil))) (pa_cons (pe_tup (pa_cons pe_int (pa_cons pe_int pa_nil))) (pa_cons (pe_tup (pa_cons pe_int (pa_cons pe_int pa_nil))) (pa_cons (pe_tup (pa_cons pe_int (pa_cons pe_int pa_nil))) (pa_cons (pe_tup (pa_cons pe_int (pa_cons pe_int pa_nil))) (pa_cons (pe_tup (pa_cons pe_int (pa_cons pe_int pa_nil))) pa_nil))))))))))
 (pss_cons (ps_if (pt_cmpR op_eq (pe_op op_mod (pe_op op_fdiv (pv 0) pe_int) pe_int) pe_int (nomark _))
 (pss_one (ps_ret (pe_ix ix_list (pe_lst (pa_cons (pe_tup (pa_cons pe_int (pa_cons pe_int pa_nil))) (pa_cons (pe_tup (pa_cons pe_int (pa_cons pe_int pa_nil))) (pa_cons (pe_tup (pa_cons pe_int (pa_cons pe_int pa_nil))) (pa_cons (pe_tup (pa_cons pe_int (pa_cons pe_int pa_nil))) pa_nil))))) (pe_op op_mod (pe_op op_fdiv (pv 0) pe_int) pe_int) (fun _ _=>rfl))))
 pss_nil)
 (pss_one (ps_ret (pe_ix ix_list (pv 1) (pe_op op_mod (pv 0) pe_int) (fun _ _=>rfl))))))),?_⟩
   refine seq_cut (MidC H c c7) (fun N hN=>?_) (fun σ1 H1 m1=>?_)
   · open_k with []
     refine ⟨by decide,fun p f1=>⟨by decide,fun p1 f2=>⟨by decide,fun p2 f3=>⟨by decide,fun p3 f4=>⟨by decide,fun p4 f5=>⟨by decide,fun p5 f6=>⟨by decide,fun p6 f7=>⟨by decide,fun p7 f8=>hN _ _ ⟨p7,[p,p1,p2,p3,p4,p5,p6],rfl,(((((((Same.new f1).upd' f2).upd' f3).upd' f4).upd' f5).upd' f6).upd' f7).upd' f8,upd_same,?_⟩⟩⟩⟩⟩⟩⟩⟩⟩
     exact .cons (upd_old (upd_old (upd_old (upd_old (upd_old (upd_old (upd_old upd_same f2) f3) f4) f5) f6) f7) f8) (.cons (upd_old (upd_old (upd_old (upd_old (upd_old (upd_old upd_same f3) f4) f5) f6) f7) f8) (.cons (upd_old (upd_old (upd_old (upd_old (upd_old upd_same f4) f5) f6) f7) f8) (.cons (upd_old (upd_old (upd_old (upd_old upd_same f5) f6) f7) f8) (.cons (upd_old (upd_old (upd_old upd_same f6) f7) f8) (.cons (upd_old (upd_old upd_same f7) f8) (.cons (upd_old upd_same f8) .nil))))))
   obtain ⟨d,as,rfl,s1,hd,ht⟩:=m1
   refine seq_cut (MidC H c c14) (fun N hN=>?_) (fun σ2 H2 m2=>?_)
   · open_k with [rCat]
     refine ⟨by decide,fun p f1=>⟨by decide,fun p1 f2=>⟨by decide,fun p2 f3=>⟨by decide,fun p3 f4=>⟨by decide,fun p4 f5=>⟨by decide,fun p5 f6=>⟨by decide,fun p6 f7=>⟨by decide,fun p7 f8=>?_⟩⟩⟩⟩⟩⟩⟩⟩
     have s4:=(((((((Same.new (o:=.tup [V.int 3,V.int 3]) f1).upd' (o:=.tup [V.int 4,V.int 1]) f2).upd' (o:=.tup [V.int 4,V.int 2]) f3).upd' (o:=.tup [V.int 5,V.int 1]) f4).upd' (o:=.tup [V.int 5,V.int 2]) f5).upd' (o:=.tup [V.int 1,V.int 6]) f6).upd' (o:=.tup [V.int 6,V.int 1]) f7).upd' (o:=.lst [V.ref p,V.ref p1,V.ref p2,V.ref p3,V.ref p4,V.ref p5,V.ref p6]) f8
     refine ⟨_,s4 _ _ hd,_,upd_same,?_,fun p8 f9=>hN _ _ ⟨p8,as++[p,p1,p2,p3,p4,p5,p6],rfl,(s1.trans s4).upd' f9,by rw [upd_same]; simp,?_⟩⟩
     · rw [List.length_map,ht.len]
       exact small_le (by simp [c7])
     · refine ((ht.same s4).same (Same.new f9)).append ?_
       exact .cons (upd_old (upd_old (upd_old (upd_old (upd_old (upd_old (upd_old (upd_old upd_same f2) f3) f4) f5) f6) f7) f8) f9) (.cons (upd_old (upd_old (upd_old (upd_old (upd_old (upd_old (upd_old upd_same f3) f4) f5) f6) f7) f8) f9) (.cons (upd_old (upd_old (upd_old (upd_old (upd_old (upd_old upd_same f4) f5) f6) f7) f8) f9) (.cons (upd_old (upd_old (upd_old (upd_old (upd_old upd_same f5) f6) f7) f8) f9) (.cons (upd_old (upd_old (upd_old (upd_old upd_same f6) f7) f8) f9) (.cons (upd_old (upd_old (upd_old upd_same f7) f8) f9) (.cons (upd_old (upd_old upd_same f8) f9) .nil))))))
   obtain ⟨d2,as2,rfl,s2,hd2,ht2⟩:=m2
   have l14:=ht2.len
   open_k with [rIxL]
   refine ⟨⟨by decide,by decide⟩,by decide,rfl,?_⟩
   by_cases e1:c / 14 % 16=1
   · rw [if_pos (decide_eq_true e1)]
     refine ⟨by decide,fun p f1=>⟨by decide,fun p1 f2=>⟨by decide,fun p2 f3=>⟨by decide,fun p3 f4=>⟨by decide,fun p4 f5=>⟨⟨by decide,by decide⟩,by decide,?_⟩⟩⟩⟩⟩⟩
     have r1:=Int.emod_nonneg (c / 224) (show (4:Int) ≠ 0 by decide)
     have r2:=Int.emod_lt_of_pos (c / 224) (show (0:Int) < 4 by decide)
     obtain ⟨i,hi⟩:∃ i:Nat,c / 224 % 4=(i:Int):=⟨(c / 224 % 4).toNat,by omega⟩
     have i4:i < 4:=by omega
     obtain ⟨a,ha⟩:∃ a,[p,p1,p2,p3][i]?=some a:=⟨[p,p1,p2,p3][i],List.getElem?_eq_getElem i4⟩
     refine ⟨_,SqL.of upd_same,.ref a,?_,fin c4 p4 a [p,p1,p2,p3] _ i (fun x hx=>List.mem_append_right _ hx) ?_ ((((((s2.upd' f1).upd' f2).upd' f3).upd' f4).upd' f5)) ha⟩
     · rw [hi]
       refine atI_nat ?_
       show ([p,p1,p2,p3].map V.ref)[i]?=_
       rw [List.getElem?_map,ha]; rfl
     · exact .cons (upd_old (upd_old (upd_old (upd_old upd_same f2) f3) f4) f5) (.cons (upd_old (upd_old (upd_old upd_same f3) f4) f5) (.cons (upd_old (upd_old upd_same f4) f5) (.cons (upd_old upd_same f5) .nil)))
   · rw [if_neg (by simp [e1])]
     have r1:=Int.emod_nonneg c (show (14:Int) ≠ 0 by decide)
     have r2:=Int.emod_lt_of_pos c (show (0:Int) < 14 by decide)
     obtain ⟨i,hi⟩:∃ i:Nat,c % 14=(i:Int):=⟨(c % 14).toNat,by omega⟩
     have i14:i < as2.length:=by
      rw [l14]
      show i < 14
      omega
     refine ⟨by decide,_,SqL.of hd2,.ref as2[i],?_,fin c14 d2 as2[i] as2 _ i (fun x hx=>List.mem_append_left _ hx) ht2 s2 (List.getElem?_eq_getElem i14)⟩
     rw [hi]
     refine atI_nat ?_
     rw [List.getElem?_map,List.getElem?_eq_getElem i14]; rfl
end
end Rb
namespace Rb
open PySem L2
section
variable {CX:CXT} {P:Program} {w:World} {K:PySem.W.Frag} {mg:Str→Option Value} {base:Heap} {t:Adr}
structure WordsAt (H:Hp) (d:Addr) (rs:List Addr) (s k:Nat):Prop where
 ls:H d=some (.lst (rs.map V.ref))
 ln:rs.length=s ^ k
 rw:∀ q r,rs[q]?=some r→H r=some (.lst (nats (dg s k q)))
theorem WordsAt.same {H H':Hp} {d:Addr} {rs:List Addr} {s k:Nat} (W:WordsAt H d rs s k) (h:Same H H'):WordsAt H' d rs s k:=⟨h _ _ W.ls,W.ln,fun q r e=>h _ _ (W.rw q r e)⟩
def sp_law_words:Sp:=fun vs H Q _=>∃ s k:Nat,vs=[.int s,.int k]∧1≤s∧s≤6∧k≤6∧s ^ k≤64∧∀ (d:Addr) (H':Hp) (rs:List Addr),Same H H'→H d=none→WordsAt H' d rs s k→Q (.ref d) H'
def PvW (H:Hp) (s k j:Nat) (σ:St) (H':Hp):Prop:=∃ (v1 v2 v3:Option V) (d:Addr) (rs:List Addr),σ=[some (.int s),some (.int k),some (.ref d),v1,v2,v3]∧Same H H'∧H d=none∧WordsAt H' d rs s j
def PvW2 (H:Hp) (s k j:Nat) (d:Addr) (rs:List Addr) (i:Nat) (σ:St) (H':Hp):Prop:=∃ (v1 v3:Option V) (dl:Addr) (rl:List Addr),σ=[some (.int s),some (.int k),some (.ref d),v1,some (.ref dl),v3]∧Same H H'∧H dl=none∧WordsAt H' d rs s j∧H' dl=some (.lst (rl.map V.ref))∧rl.length=i * s∧∀ q r,rl[q]?=some r→H' r=some (.lst (nats (dg s (j+1) q)))
theorem ok_d1 (c0:NoX CX) (T:Txt K mg t):FnOk P w K mg base CX 1 t.f_d1 t.d_d1 ["signs","size"] sp_law_words:=by
 refine T.F_d1.okX sc_d1 (fun vs H Q E h=>?_) (fun cdv A outer s H vs Q E hr h=>?_)
 · obtain ⟨m,k,rfl,_⟩:=h
   rfl
 · obtain ⟨m,k,rfl,m1,m2,k2,h64,q⟩:=h
   refine ⟨_,(pss_cons (ps_set (i:=2) sc_d1.nd (by rfl) (Or.inl rfl) (pe_lst (pa_cons (pe_lst pa_nil) pa_nil)))
 (pss_cons (ps_for PassesOwn.never (by rfl) (pi_range1 (by rfl) T.n_range (pa_cons (pv 1) pa_nil)) (pg_name (i:=3) sc_d1.nd (by rfl) (Or.inl rfl))
 (pss_cons (ps_set (i:=4) sc_d1.nd (by rfl) (Or.inl rfl) (pe_lst pa_nil))
 (pss_cons (ps_for PassesOwn.never (by rfl) (pi_list (pv 2)) (pg_name (i:=5) sc_d1.nd (by rfl) (Or.inr rfl))
 (pss_one (ps_set (i:=4) sc_d1.nd (by rfl) (Or.inl rfl) (pe_op op_cat (pv 4) (pe_comp (own:=(["sign"]:List Str)) (fr:=(["row"]:List Str)) (ix:=([5]:List Nat)) (by rfl) ⟨by rfl,by decide +kernel,by rfl,by rfl,by rfl⟩ (pi_range1 (by rfl) T.n_range (pa_cons (pv 0) pa_nil)) (fun _=>(pg_name (i:=0) (show List.Nodup (["sign","row"]:List Str) by decide +kernel) (by rfl) (Or.inl rfl))) (fun _ hB=>pts_nil) (fun _ hB=>(pe_op op_cat (pv 1) (pe_lst (pa_cons (pv 0) pa_nil)))))))))
 (pss_one (ps_set (i:=2) sc_d1.nd (by rfl) (Or.inl rfl) (pv 4))))))
 (pss_one (ps_ret (pv 2))))),?_⟩
   open_k with [rCat]
   refine ⟨by decide,fun p fp=>⟨by decide,fun p1 fp1=>⟨by omega,by omega,forb_range (PvW H m k) ⟨none,none,none,p1,[p],rfl,(Same.new fp).upd' fp1,(Same.new fp).free fp1,upd_same,rfl,fun q r e=>?_⟩ ?_ ?_⟩⟩⟩
   · match q,e with
     | 0,e=>cases e; exact upd_old upd_same fp1
     | q+1,e=>cases e
   · rintro j σ H1 hj ⟨v1,v2,v3,d,rs,rfl,s1,fd,W⟩
     rw [Int.toNat_natCast] at hj
     have hjk:m ^ (j+1)≤64:=Nat.le_trans (Nat.pow_le_pow_right m1 hj) h64
     have hjs:m ^ j * m≤64:=by rw [← Nat.pow_succ]; exact hjk
     have ln:=W.ln
     open_k with [rCat]
     refine ⟨by decide,fun dl fdl=>?_⟩
     have W0:=W.same (Same.new (o:=.lst []) fdl)
     refine ⟨⟨_,SqL.of W0.ls⟩,forb_list (xs:=rs.map V.ref) (PvW2 H m k j d rs) ⟨_,_,dl,[],rfl,s1.upd' fdl,s1.free fdl,W0,upd_same,by simp,fun q r e=>by cases e⟩ ?_ ?_ ?_⟩
     · rintro i σ H2 hi ⟨w1,w3,el,rl,rfl,s2,fel,W2,hel,le,hr2⟩
       exact SqL.of W2.ls
     · rintro i z σ H2 hz ⟨w1,w3,el,rl,rfl,s2,fel,W2,hel,le,hr2⟩
       rw [List.getElem?_map] at hz
       cases hri:rs[i]? with
       | none=>rw [hri] at hz; cases hz
       | some r =>
        rw [hri] at hz
        have ez:z=.ref r:=(Option.some.inj hz).symm
        subst ez
        have hr:=W2.rw i r hri
        have hi:i < m ^ j:=by
         obtain ⟨a,_⟩:=List.getElem?_eq_some_iff.mp hri
         omega
        have his:(i+1) * m≤64:=Nat.le_trans (Nat.mul_le_mul_right _ hi) hjs
        have his2:i * m+m≤64:=by rw [Nat.add_mul,Nat.one_mul] at his; exact his
        have ldg:(dg m j i).length=j:=by
         have:∀ j w,(dg m j w).length=j:=fun j=>by
          induction j with
          | zero=>intro _; rfl
          | succ j ih=>intro w; show (dg m j (w / m)++[w % m]).length=_; rw [List.length_append,ih]; rfl
         exact this j i
        open_k with [rCat]
        refine ⟨by omega,by omega,blk_range (fun c ys σ H'=>∃ u as,σ=[u,some (.ref r)]∧Same H2 H'∧ys=as.map V.ref∧as.length=c∧∀ q a,as[q]?=some a→H' a=some (.lst (nats (dg m j i++[q])))) (by rw [Int.toNat_natCast]; exact small_le (by omega)) ⟨none,[],rfl,Same.refl _,rfl,rfl,fun q a e=>by cases e⟩ ?_ ?_ ?_⟩
        · rintro c ys σ H3 hc ⟨u,as,rfl,s3,rfl,la,ha⟩
          rw [List.length_map,la]
          exact Nat.le_refl _
        · rintro bk c ys σ H3 hc ⟨u,as,rfl,s3,rfl,la,ha⟩
          rw [Int.toNat_natCast] at hc
          open_k with [rCat,Int.zero_add]
          refine ⟨by decide,fun b fb=>⟨_,upd_old (s3 _ _ hr) fb,_,upd_same,by rw [nats_len,ldg]; exact small_le (by simp; omega),fun b2 fb2=>⟨(s3.upd' fb).upd' fb2,as++[b2],by simp,by simp [la],fun q a e=>?_⟩⟩⟩
          by_cases hq:q < as.length
          · rw [List.getElem?_append_left hq] at e
            exact upd_old (upd_old (ha q a e) fb) fb2
          · rw [List.getElem?_append_right (by omega)] at e
            have:q - as.length=0:=by
             obtain ⟨h1,_⟩:=List.getElem?_eq_some_iff.mp e
             simpa using h1
            rw [this] at e
            cases e
            have:q=c:=by omega
            subst this
            rw [upd_same,nats_append]
            rfl
        · rintro ys σ H3 D ⟨u,as,rfl,s3,rfl,la,ha⟩ fD
          rw [Int.toNat_natCast] at la
          have hel3:=upd_old (o:=.lst (as.map V.ref)) (s3 _ _ hel) fD
          refine ⟨D,rfl,_,hel3,_,upd_same,by rw [List.length_map,List.length_map,le,la]; exact small_le (by omega),fun D2 fD2=>?_⟩
          have s4:Same H2 (upd (upd H3 D (.lst (as.map V.ref))) D2 (.lst (rl.map V.ref++as.map V.ref))):=(s3.upd' fD).upd' fD2
          refine ⟨_,_,D2,rl++as,rfl,s2.trans s4,s2.free ((s3.upd' fD).free fD2),W2.same s4,by rw [upd_same]; simp,by rw [List.length_append,le,la,Nat.add_mul,Nat.one_mul],fun q a e=>?_⟩
          by_cases hq:q < rl.length
          · rw [List.getElem?_append_left hq] at e
            exact s4 _ _ (hr2 q a e)
          · rw [List.getElem?_append_right (by omega)] at e
            have h1:=upd_old (o:=.lst (rl.map V.ref++as.map V.ref)) (upd_old (o:=.lst (as.map V.ref)) (ha _ a e) fD) fD2
            have hlt:q - rl.length < m:=by
             obtain ⟨h2,_⟩:=List.getElem?_eq_some_iff.mp e
             omega
            have eq1:q=m * i+(q - rl.length):=by rw [le] at hq ⊢; rw [Nat.mul_comm]; omega
            have e1:q / m=i:=by rw [eq1,Nat.mul_add_div m1,Nat.div_eq_of_lt hlt,Nat.add_zero]
            have e2:q % m=q - rl.length:=by
             conv=>lhs; rw [eq1]
             rw [Nat.mul_add_mod,Nat.mod_eq_of_lt hlt]
            rw [h1]
            show _=some (HO.lst (nats (dg m j (q / m)++[q % m])))
            rw [e1,e2]
     · rintro σ H2 ⟨w1,w3,el,rl,rfl,s2,fel,W2,hel,le,hr2⟩
       rw [List.length_map] at le
       open_k with []
       exact ⟨_,_,_,el,rl,rfl,s2,fel,hel,by rw [le,ln,Nat.pow_succ],hr2⟩
   · rintro σ H1 ⟨v1,v2,v3,d,rs,rfl,s1,fd,W⟩
     rw [Int.toNat_natCast] at W
     open_k with []
     exact q d H1 rs s1 fd W
end
end Rb
namespace Rb
open PySem L2
section
variable {CX:CXT} {P:Program} {w:World} {K:PySem.W.Frag} {mg:Str→Option Value} {base:Heap} {t:Adr}
def sp_law (K:PySem.W.Frag):Sp:=fun vs H Q _=>∃ (a:Addr) (ns:List Int),vs=[.ref a]∧SqL K H a (ns.map V.int)∧ns.length≤63∧∀ H',Q (.bl true) H'
theorem law_start {K:PySem.W.Frag} {H:Hp} {a:Addr} {ns:List Int} (hl:ns.length≤63) (_:Only H) (hS:SqL K H a (ns.map V.int)):sp_law K [.ref a] H (fun v _=>v=.bl true) (fun _ _ _=>False):=⟨a,ns,rfl,hS,hl,fun _=>rfl⟩
structure Base (K:PySem.W.Frag) (C:Addr) (H:Hp) (a dw x l:Addr) (rs as:List Addr) (ns:List Int) (s k:Nat):Prop where
 sc:SqL K H a (ns.map V.int)
 w:WOk s k
 wd:WordsAt H dw rs s k
 net:NetAt C H x l as ((s ^ (k - 1):Nat):Int) (wN s k)
theorem Base.same {C:Addr} {H H':Hp} {a dw x l:Addr} {rs as:List Addr} {ns:List Int} {s k:Nat} (B:Base K C H a dw x l rs as ns s k) (h:Same H H'):Base K C H' a dw x l rs as ns s k :=
 ⟨h.seq B.sc,B.w,B.wd.same h,B.net.same h⟩
def Mid1 (K:PySem.W.Frag) (C:Addr) (σ:St) (H:Hp):Prop:=∃ (a tp dw x l:Addr) (rs as:List Addr) (ns:List Int) (s k:Nat),σ=[some (.ref a),some (.ref tp),some (.int s),some (.int k),some (.ref dw),some (.ref x),none,none,none,none,none,none,none,none,none]∧Base K C H a dw x l rs as ns s k
def Mid2 (K:PySem.W.Frag) (C:Addr) (a tp dw x:Addr) (s k:Nat) (HB:Hp) (σ:St) (H:Hp):Prop:=∃ (dq dd:Addr) (qs ds:List Addr),σ=[some (.ref a),some (.ref tp),some (.int s),some (.int k),some (.ref dw),some (.ref x),some (.ref dq),some (.ref dd),none,none,none,none,none,none,none]∧Same HB H∧WordsAt H dq qs s (k - 1)∧H dd=some (.lst (ds.map V.ref))∧TupsAt H ds (wN s k)
def Mid3 (K:PySem.W.Frag) (C:Addr) (a tp dw x dq dd:Addr) (s k:Nat) (HB:Hp) (σ:St) (H:Hp):Prop:=σ=[some (.ref a),some (.ref tp),some (.int s),some (.int k),some (.ref dw),some (.ref x),some (.ref dq),some (.ref dd),some (.int (dueN s k:Nat)),none,none,none,none,none,none]∧Same HB H
def Mid4 (K:PySem.W.Frag) (C:Addr) (a tp dw x dq dd:Addr) (s k:Nat) (HB:Hp) (σ:St) (H:Hp):Prop:=∃ (num:Nat) (dr:Addr) (rn:List Nat),σ=[some (.ref a),some (.ref tp),some (.int s),some (.int k),some (.ref dw),some (.ref x),some (.ref dq),some (.ref dd),some (.int (dueN s k:Nat)),some (.int num),some (.ref dr),none,none,none,none]∧Same HB H∧OfNum s k num rn∧H dr=some (.lst (nats (rn.map (· % s))))
def Mid5 (K:PySem.W.Frag) (C:Addr) (a tp dw x dq dd dr:Addr) (s k num:Nat) (HB:Hp) (σ:St) (H:Hp):Prop:=∃ v1:Option V,σ=[some (.ref a),some (.ref tp),some (.int s),some (.int k),some (.ref dw),some (.ref x),some (.ref dq),some (.ref dd),some (.int (dueN s k:Nat)),some (.int num),some (.ref dr),v1,none,none,none]∧H=HB
def Mid6 (K:PySem.W.Frag) (C:Addr) (a tp dw x dq dd dr:Addr) (s k num:Nat) (rn:List Nat) (HB:Hp) (σ:St) (H:Hp):Prop:=∃ (v1 v2:Option V) (dm:Addr) (ms:List Addr),σ=[some (.ref a),some (.ref tp),some (.int s),some (.int k),some (.ref dw),some (.ref x),some (.ref dq),some (.ref dd),some (.int (dueN s k:Nat)),some (.int num),some (.ref dr),v1,some (.ref dm),v2,none]∧Same HB H∧H dm=some (.lst (ms.map V.ref))∧ms.length=s ^ k∧∀ t b,ms[t]?=some b→b ≠ dm∧H b=some (.lst (nats (metN s k rn t)))
theorem dg_len (s:Nat):∀ j w,(dg s j w).length=j
 | 0,_=>rfl
 | j+1,w=>by show (dg s j (w / s)++[w % s]).length=_; rw [List.length_append,dg_len s j]; rfl
open Classical in
theorem idx_words {H:Hp} {dq d1:Addr} {qs:List Addr} {s k j:Nat} (Wq:WordsAt H dq qs s k) (hn:((List.range (s ^ k)).map (dg s k)).Nodup) (hj:j < s ^ k) (h1:H d1=some (.lst (nats (dg s k j)))) {Q:VK} (q:Q (.int j) H):rIndexD K (.ref dq) [.ref d1] H Q:=by
 have inj:∀ x y:List Nat,nats x=nats y→x=y:=fun x y h=>(List.map_inj_right (fun p r z=>by injection z with z; omega)).mp h
 have ln:=Wq.ln
 have ne:∀ i,i < j→dg s k i ≠ dg s k j:=fun i hi e=>by
  have:=List.pairwise_iff_getElem.mp hn i j (by simp; omega) (by simp; omega) hi
  simp only [List.getElem_map,List.getElem_range] at this
  exact this e
 refine ⟨dq,d1,qs,fun a=>decide (H a=H d1),j,rfl,rfl,Wq.ls,fun a ha=>?_,⟨qs[j]'(by omega),List.getElem?_eq_getElem _,?_⟩,fun i a hi ha=>?_,q⟩
 · obtain ⟨i,hi,rfl⟩:=List.getElem_of_mem ha
   have h2:=Wq.rw i _ (List.getElem?_eq_getElem hi)
   have:=DEq.nats (K:=K) h2 h1 (by rw [dg_len,dg_len])
   have e:decide (dg s k i=dg s k j)=decide (H qs[i]=H d1):=by
    by_cases c:dg s k i=dg s k j
    · rw [decide_eq_true c,decide_eq_true (by rw [h2,h1,c])]
    · rw [decide_eq_false c,decide_eq_false (fun z=>c (by
       rw [h2,h1] at z
       have:=Option.some.inj z
       injection this with this
       exact inj _ _ this))]
   show DEq K H 20 _ _ (decide (H qs[i]=H d1))
   rw [← e]; exact this
 · exact decide_eq_true (by rw [Wq.rw j _ (List.getElem?_eq_getElem _),h1])
 · refine decide_eq_false fun z=>ne i hi ?_
   rw [Wq.rw i a ha,h1] at z
   have:=Option.some.inj z
   injection this with this
   exact inj _ _ this
def gOf:Option HO→List Int
 | some (.lst xs)=>xs.map Srt.intOf
 | _=>[]
set_option maxHeartbeats 16000000 in
theorem ok_y1 (c0:NoX CX) (T:Txt K mg t):FnOk P w K mg base CX 11 t.f_y1 t.d_y1 ["script"] (sp_law K):=by
 refine T.F_y1.okX sc_y1 (fun vs H Q E h=>?_) (fun cdv A outer s H vs Q E hr h=>?_)
 · obtain ⟨a,ns,rfl,_⟩:=h
   rfl
 · obtain ⟨a,ns,rfl,hs,hl,q⟩:=h
   refine ⟨_,(pss_cons (ps_set (i:=1) sc_y1.nd (by rfl) (Or.inl rfl) (pe_call (ok_s c0 T) (hr.mono (by decide)) (by rfl) T.m_s T.F_s.kp T.b_s .nil (pass1 c0) (pa_cons (pe_call (ok_o c0 T) (hr.mono (by decide)) (by rfl) T.m_o T.F_o.kp T.b_o .nil (pass1 c0) (pa_cons (pv 0) (pa_cons pe_int pa_nil))) pa_nil)))
 (pss_cons (ps_set (i:=2) sc_y1.nd (by rfl) (Or.inl rfl) (pe_ix ix_tup (pv 1) pe_int (fun _ _=>rfl)))
 (pss_cons (ps_set (i:=3) sc_y1.nd (by rfl) (Or.inl rfl) (pe_ix ix_tup (pv 1) pe_int (fun _ _=>rfl)))
 (pss_cons (ps_set (i:=4) sc_y1.nd (by rfl) (Or.inl rfl) (pe_call (ok_d1 c0 T) (hr.mono (by decide)) (by rfl) T.m_d1 T.F_d1.kp T.b_d1 .nil (pass1 c0) (pa_cons (pv 2) (pa_cons (pv 3) pa_nil))))
 (pss_cons (ps_set (i:=5) sc_y1.nd (by rfl) (Or.inl rfl) (pe_call (ok_r1 c0 T) (hr.mono (by decide)) (by rfl) T.m_r1 T.F_r1.kp T.b_r1 .nil (pass1 c0) (pa_cons (pv 2) (pa_cons (pv 3) pa_nil))))
 (pss_cons (ps_set (i:=6) sc_y1.nd (by rfl) (Or.inr rfl) (pe_call (ok_d1 c0 T) (hr.mono (by decide)) (by rfl) T.m_d1 T.F_d1.kp T.b_d1 .nil (pass1 c0) (pa_cons (pv 2) (pa_cons (pe_op op_sub (pv 3) pe_int) pa_nil))))
 (pss_cons (ps_comp (i:=7) sc_y1.nd (by rfl) (Or.inl rfl) (own:=(["word"]:List Str)) (fr:=(["shorter"]:List Str)) (ix:=([6]:List Nat)) (by rfl) ⟨by rfl,by decide +kernel,by rfl,by rfl,by rfl⟩ (pi_list (pv 4)) (fun _=>(pg_name (i:=0) (show List.Nodup (["word","shorter"]:List Str) by decide +kernel) (by rfl) (Or.inl rfl))) (fun _ hB=>pts_nil) (fun _ hB=>(pe_tup (pa_cons (pe_bm PySem.F.plainAttrs_list PySem.F.slot_list_index PySem.F.type_list_index (mt_indexD (hu64 hr)) (pv 1) (pa_cons (pe_slice sl_list (pv 0) po_none (po_some (pe_un un_neg pe_int))) pa_nil)) (pa_cons (pe_bm PySem.F.plainAttrs_list PySem.F.slot_list_index PySem.F.type_list_index (mt_indexD (hu64 hr)) (pv 1) (pa_cons (pe_slice sl_list (pv 0) (po_some pe_int) po_none) pa_nil)) pa_nil)))))
 (pss_cons (ps_if (PW.pt (pw_or (pt_cmpR op_ne (pe_meth0 (pv 5) T.cl_Net T.M_v (ok_v c0 T) (hr.mono (by decide)) T.b_v .nil (pass1 c0)) (pe_callB call_len (by rfl) T.n_len (by decide +kernel:bootBuiltins "len"=some (.builtin "len")) (pa_cons (pv 6) pa_nil)) (nomark _)) (pw_or1 (pt_cmpR (op_neDL (hu64 hr)) (pe_meth0 (pv 5) T.cl_Net T.M_e1 (ok_e1 c0 T) (hr.mono (by decide)) T.b_e1 .nil (pass1 c0)) (pv 7) (nomark _)))))
 (pss_one (ps_ret pe_bl))
 pss_nil)
 (pss_cons (ps_set (i:=8) sc_y1.nd (by rfl) (Or.inl rfl) (pe_call (ok_g c0 T) (hr.mono (by decide)) (by rfl) T.m_g T.F_g.kp T.b_g .nil (pass1 c0) (pa_cons (pv 2) (pa_cons (pv 3) pa_nil))))
 (pss_cons (ps_if (PW.pt (pw_or (pt_not (pt_val (pe_call (ok_c1 c0 T) (hr.mono (by decide)) (by rfl) T.m_c1 T.F_c1.kp T.b_c1 .nil (pass1 c0) (pa_cons (pv 8) pa_nil)))) (pw_or1 (pt_cmpR op_ne (pv 8) (pe_call (ok_n1 c0 T) (hr.mono (by decide)) (by rfl) T.m_n1 T.F_n1.kp T.b_n1 .nil (pass1 c0) (pa_cons (pv 2) (pa_cons (pv 3) (pa_cons (pe_callB call_len (by rfl) T.n_len (by decide +kernel:bootBuiltins "len"=some (.builtin "len")) (pa_cons (pv 4) pa_nil)) pa_nil)))) (nomark _)))))
 (pss_one (ps_ret pe_bl))
 pss_nil)
 (pss_cons (ps_set (i:=9) sc_y1.nd (by rfl) (Or.inl rfl) (pe_op op_mod (pe_call (ok_o c0 T) (hr.mono (by decide)) (by rfl) T.m_o T.F_o.kp T.b_o .nil (pass1 c0) (pa_cons (pv 0) (pa_cons pe_int pa_nil))) (pv 8)))
 (pss_cons (ps_set (i:=10) sc_y1.nd (by rfl) (Or.inr rfl) (pe_call (ok_m1 c0 T) (hr.mono (by decide)) (by rfl) T.m_m1 T.F_m1.kp T.b_m1 .nil (pass1 c0) (pa_cons (pv 2) (pa_cons (pv 3) (pa_cons (pv 9) pa_nil)))))
 (pss_cons (ps_if (PW.pt (pw_or (pt_not (pt_val (pe_callB call_isi (by rfl) T.n_isinstance (by decide +kernel:bootBuiltins "isinstance"=some (.builtin "isinstance")) (pa_cons (pv 10) (pa_cons (pe_bltn (v:=V.ty "list") (by rfl) T.n_list (by decide +kernel:bootBuiltins "list"=some (.type "list")) rfl) pa_nil))))) (pw_or1 (pt_cmpR op_ne (pe_callB call_len (by rfl) T.n_len (by decide +kernel:bootBuiltins "len"=some (.builtin "len")) (pa_cons (pv 10) pa_nil)) (pe_callB call_len (by rfl) T.n_len (by decide +kernel:bootBuiltins "len"=some (.builtin "len")) (pa_cons (pv 4) pa_nil)) (nomark _)))))
 (pss_one (ps_ret pe_bl))
 pss_nil)
 (pss_cons (ps_for PassesOwn.never (by rfl) (pi_list (pv 10)) (pg_name (i:=11) sc_y1.nd (by rfl) (Or.inl rfl))
 (pss_one (ps_if (PW.pt (pw_or (pt_not (pt_val (pe_call (ok_c1 c0 T) (hr.mono (by decide)) (by rfl) T.m_c1 T.F_c1.kp T.b_c1 .nil (pass1 c0) (pa_cons (pv 11) pa_nil)))) (pw_or1 (pt_not (pt_chain op_le op_lt pe_int (pv 11) (pv 2))))))
 (pss_one (ps_ret pe_bl))
 pss_nil)))
 (pss_cons (ps_set (i:=12) sc_y1.nd (by rfl) (Or.inl rfl) (pe_lst pa_nil))
 (pss_cons (ps_for PassesOwn.never (by rfl) (pi_range1 (by rfl) T.n_range (pa_cons (pe_callB call_len (by rfl) T.n_len (by decide +kernel:bootBuiltins "len"=some (.builtin "len")) (pa_cons (pv 10) pa_nil)) pa_nil)) (pg_name (i:=13) sc_y1.nd (by rfl) (Or.inr rfl))
 (pss_one (ps_expr (pe_bm PySem.F.plainAttrs_list PySem.F.slot_list_append PySem.F.type_list_append mt_append (pv 12) (pa_cons (pe_comp (own:=(["step"]:List Str)) (fr:=(["ring","k"]:List Str)) (ix:=([10,13]:List Nat)) (by rfl) ⟨by rfl,by decide +kernel,by rfl,by rfl,by rfl⟩ (pi_range1 (by rfl) T.n_range (pa_cons (pv 3) pa_nil)) (fun _=>(pg_name (i:=0) (show List.Nodup (["step","ring","k"]:List Str) by decide +kernel) (by rfl) (Or.inl rfl))) (fun _ hB=>pts_nil) (fun _ hB=>(pe_ix ix_list (pv 1) (pe_op op_mod (pe_op op_add (pv 2) (pv 0)) (pe_callB call_len (by rfl) T.n_len (by decide +kernel:bootBuiltins "len"=some (.builtin "len")) (pa_cons (pv 1) pa_nil))) (fun _ _=>rfl)))) pa_nil)))))
 (pss_cons (ps_if (PW.pt (pw_or (pt_cmpR (op_neDL (hu64 hr)) (pe_callB (Srt.call_sortedL (hu2 hr)) (by rfl) T.n_sorted (by decide +kernel:bootBuiltins "sorted"=some (.builtin "sorted")) (pa_cons (pv 12) pa_nil)) (pv 4) (nomark _)) (pw_or1 (pt_cmpR (op_neS (hu0 hr)) (pe_ix ix_list (pv 12) (pe_op op_mod (pe_op op_sub pe_int (pv 3)) (pe_callB call_len (by rfl) T.n_len (by decide +kernel:bootBuiltins "len"=some (.builtin "len")) (pa_cons (pv 10) pa_nil))) (fun _ _=>rfl)) (pe_op op_rep (pe_lst (pa_cons pe_int pa_nil)) (pv 3)) (nomark _)))))
 (pss_one (ps_ret pe_bl))
 pss_nil)
 (pss_cons (ps_set (i:=14) sc_y1.nd (by rfl) (Or.inl rfl) (pe_call (ok_d c0 T) (hr.mono (by decide)) (by rfl) T.m_d T.F_d.kp T.b_d .nil (pass1 c0) (pa_cons (pv 2) (pa_cons (pv 3) (pa_cons (pe_callTy call_list_of (by rfl) T.n_list (by decide +kernel:bootBuiltins "list"=some (.type "list")) (pa_cons (pv 10) pa_nil)) pa_nil)))))
 (pss_one (ps_ret (pe_and (pe_call (ok_c1 c0 T) (hr.mono (by decide)) (by rfl) T.m_c1 T.F_c1.kp T.b_c1 .nil (pass1 c0) (pa_cons (pv 14) pa_nil)) (pe_one (pe_cmpR op_eq (pv 14) (pv 9) (nomark _)))))))))))))))))))))))),?_⟩
   refine seq_cut5 (Mid1 K t.C_Net) (fun N hN=>?_) (fun σ1 H1 m1=>?_)
   · open_k with [sp_cell_at,rIxT]
     refine ⟨ns,hs,by decide,_,rfl,fun tp H1 m k s1 htp W=>?_⟩
     obtain ⟨a1,a2,a3,a4,a5,a6,a7,a8⟩:=W.b1
     refine ⟨tp,rfl,_,SqT.of htp,_,atI_nat (j:=0) rfl,tp,rfl,_,SqT.of htp,_,atI_nat (j:=1) rfl,m,k,rfl,a1,a2,a4,a5,fun dw H2 rs s2 fdw Wd=>⟨m,k,rfl,W,fun x l as H3 s3 fx N3=>hN _ _ ⟨a,tp,dw,x,l,rs,as,ns,m,k,rfl,⟨((s1.trans s2).trans s3).seq hs,W,Wd.same s3,N3⟩⟩⟩⟩
   obtain ⟨a,tp,dw,x,l,rs,as,ns,m,k,rfl,B⟩:=m1
   have W:=B.w
   obtain ⟨a1,a2,a3,a4,a5,a6,a7,a8⟩:=W.b1
   have ek:(k:Int) - 1=((k - 1:Nat):Int):=by omega
   have hr1:m ^ (k - 1)≤64:=by omega
   refine seq_cut2 (Mid2 K t.C_Net a tp dw x m k H1) (fun N hN=>?_) (fun σ2 H2 m2=>?_)
   · open_k with [rIxT]
     rw [ek]
     refine ⟨m,k - 1,rfl,a1,a2,by omega,hr1,fun dq H2 qs s2 fdq Wq=>?_⟩
     have Wd2:=B.wd.same s2
     have lw:=Wd2.ln
     refine ⟨⟨_,SqL.of Wd2.ls⟩,blk_list (xs:=rs.map V.ref) (fun i ys σ H'=>∃ u ds,σ=[u,some (.ref dq)]∧Same H2 H'∧ys=ds.map V.ref∧TupsAt H' ds ((wN m k).take i)) (by rw [List.length_map]; exact small_le (by omega)) ⟨none,[],rfl,Same.refl _,rfl,.nil⟩ ?_ ?_ ?_⟩
     · rintro i ys σ H3 hi ⟨u,ds,rfl,s3,rfl,ht⟩
       exact ⟨SqL.of (s3 _ _ Wd2.ls),by rw [List.length_map,ht.len,List.length_take]; omega⟩
     · rintro bk i z ys σ H3 hz ⟨u,ds,rfl,s3,rfl,ht⟩
       rw [List.getElem?_map] at hz
       cases hri:rs[i]? with
       | none=>rw [hri] at hz; cases hz
       | some r =>
        rw [hri] at hz
        have ez:z=.ref r:=(Option.some.inj hz).symm
        subst ez
        have hi:i < m ^ k:=by
         obtain ⟨b,_⟩:=List.getElem?_eq_some_iff.mp hri
         omega
        have hr3:=s3 _ _ (Wd2.rw i r hri)
        have W3:=Wq.same s3
        obtain ⟨d1,d2,d3,d4⟩:=W.dl i hi
        have c1:cutV (nats (dg m k i)) none (some (-1))=nats (dg m (k - 1) (i / m)):=by
         rw [cutV_dropLast _ (by rw [nats_len,d4]; exact a3)]
         unfold nats
         rw [← List.map_dropLast,d1]
        have c2:cutV (nats (dg m k i)) (some 1) none=nats (dg m (k - 1) (i % m ^ (k - 1))):=by
         have:=cutV_drop (nats (dg m k i)) 1 (by rw [nats_len,d4]; exact a3)
         rw [show ((1:Nat):Int)=(1:Int) from rfl] at this
         rw [this]
         unfold nats
         rw [← List.map_drop,d2]
        have j1:i / m < m ^ (k - 1):=Nat.div_lt_of_lt_mul (by rw [Nat.mul_comm,← a8]; exact hi)
        have j2:i % m ^ (k - 1) < m ^ (k - 1):=Nat.mod_lt _ a6
        open_k with []
        refine ⟨Or.inl ⟨rfl,_,SqL.of W3.ls⟩,r,_,rfl,SqL.of hr3,fun e1 fe1=>?_⟩
        rw [c1]
        have s4:=s3.upd' (o:=.lst (nats (dg m (k - 1) (i / m)))) fe1
        have W4:=W3.same (Same.new (o:=.lst (nats (dg m (k - 1) (i / m)))) fe1)
        have hr4:=upd_old (o:=.lst (nats (dg m (k - 1) (i / m)))) hr3 fe1
        have h4:upd H3 e1 (.lst (nats (dg m (k - 1) (i / m)))) e1=some (.lst (nats (dg m (k - 1) (i / m)))):=upd_same
        have ht4:=ht.same (Same.new (o:=.lst (nats (dg m (k - 1) (i / m)))) fe1)
        generalize upd H3 e1 (.lst (nats (dg m (k - 1) (i / m))))=H4 at *
        refine idx_words W4 W.nd j1 h4 ⟨Or.inl ⟨rfl,_,SqL.of W4.ls⟩,r,_,rfl,SqL.of hr4,fun e2 fe2=>?_⟩
        rw [c2]
        refine idx_words (W4.same (Same.new fe2)) W.nd j2 upd_same ⟨by decide,fun b fb=>⟨(s4.upd' fe2).upd' fb,ds++[b],by simp,?_⟩⟩
        have et:(wN m k).take (i+1)=(wN m k).take i++[(((i / m:Nat):Int),((i % m ^ (k - 1):Nat):Int))]:=by
         rw [List.take_add_one]
         congr 1
         unfold wN
         rw [List.getElem?_map,List.getElem?_range hi]
         rfl
        rw [et]
        exact ((ht4.same (Same.new fe2)).same (Same.new fb)).append (.cons upd_same .nil)
     · rintro ys σ H3 D ⟨u,ds,rfl,s3,rfl,ht⟩ hD
       rw [List.length_map,lw,List.take_of_length_le (by rw [wN_len]; exact Nat.le_refl _)] at ht
       exact hN _ _ ⟨dq,D,qs,ds,rfl,(s2.trans s3).upd' hD,(Wq.same s3).same (Same.new hD),upd_same,ht.same (Same.new hD)⟩
   obtain ⟨dq,dd,qs,ds,rfl,s2,Wq,hdd,htd⟩:=m2
   refine seq_cut2 (Mid3 K t.C_Net a tp dw x dq dd m k H1) (fun N hN=>?_) (fun σ3 H3 m3=>?_)
   · open_k with []
     have N2:=B.net.same s2
     obtain ⟨dx,ex⟩:=N2.ob
     have la:as.length=m ^ k:=by rw [N2.ts.len,wN_len]
     have ld:ds.length=m ^ k:=by rw [htd.len,wN_len]
     refine ⟨_,_,ex,nfl_no _ _ (by decide +kernel) (by decide +kernel),x,l,as,_,wN m k,rfl,N2,_,lenL (SqL.of Wq.ls),rfl,?_⟩
     rw [if_neg (by rw [List.length_map,Wq.ln]; simp)]
     refine ⟨_,_,ex,nfl_no _ _ (by decide +kernel) (by decide +kernel),x,l,as,_,wN m k,rfl,N2,fun d1 fd1=>?_⟩
     have s3:=s2.upd' (o:=.lst (as.map V.ref)) fd1
     have hd1:upd H2 d1 (.lst (as.map V.ref)) d1=some (.lst (as.map V.ref)):=upd_same
     have s23:Same H2 (upd H2 d1 (.lst (as.map V.ref))):=Same.new fd1
     generalize upd H2 d1 (.lst (as.map V.ref))=H3 at *
     refine ⟨d1,dd,_,_,fun _=>true,rfl,rfl,SqL.of hd1,SqL.of (s23 _ _ hdd),by rw [List.length_map,List.length_map,la,ld],fun j y z hy hz=>?_,?_⟩
     · rw [List.getElem?_map] at hy hz
       cases h1:as[j]? with
       | none=>rw [h1] at hy; cases hy
       | some b =>
        cases h2:ds[j]? with
        | none=>rw [h2] at hz; cases hz
        | some c =>
         rw [h1] at hy
         rw [h2] at hz
         cases hy; cases hz
         have hj:j < (wN m k).length:=by
          obtain ⟨h3,_⟩:=List.getElem?_eq_some_iff.mp h1
          rw [wN_len]; omega
         obtain ⟨b',e1,e2⟩:=N2.ts.get' (i:=j) (q:=(wN m k)[j]) (by simp [hj])
         obtain ⟨c',e3,e4⟩:=htd.get' (i:=j) (q:=(wN m k)[j]) (by simp [hj])
         rw [h1] at e1
         rw [h2] at e3
         cases e1; cases e3
         exact DEq.pair2 (s23 _ _ e2) (s23 _ _ e4)
     · refine ⟨_,rfl,?_⟩
       rw [if_neg (by simp)]
       exact ⟨m,k,rfl,W,fun H4 s4=>hN _ _ ⟨rfl,s3.trans s4⟩⟩
   obtain ⟨rfl,s3⟩:=m3
   refine seq_cut3 (Mid4 K t.C_Net a tp dw x dq dd m k H1) (fun N hN=>?_) (fun σ4 H4 m4=>?_)
   · open_k with [sp_cell_at,sp_whole]
     have B3:=B.same s3
     rw [if_neg (by simp)]
     refine ⟨_,lenL (SqL.of B3.wd.ls),m,k,by rw [List.length_map,B3.wd.ln],W,rfl,?_⟩
     rw [if_neg (by simp)]
     have pos:=W.du.2
     refine ⟨ns,B3.sc,by decide,by omega,?_⟩
     have r1:=Int.emod_nonneg (cellOf ns 1) (show ((dueN m k:Nat):Int) ≠ 0 by omega)
     have r2:=Int.emod_lt_of_pos (cellOf ns 1) (show 0 < ((dueN m k:Nat):Int) by omega)
     obtain ⟨num,hnum⟩:∃ num:Nat,cellOf ns 1 % ((dueN m k:Nat):Int)=(num:Int):=⟨(cellOf ns 1 % ((dueN m k:Nat):Int)).toNat,by omega⟩
     rw [hnum]
     exact ⟨m,k,num,rfl,W,by omega,fun d H4 rn s4 fd O hd=>hN _ _ ⟨num,d,rn,rfl,s3.trans s4,O,hd⟩⟩
   obtain ⟨num,dr,rn,rfl,s4,O,hdr⟩:=m4
   have R:=O.rw W
   have lr:=R.len
   have pos:=R.pos
   refine seq_cut2 (Mid5 K t.C_Net a tp dw x dq dd dr m k num H4) (fun N hN=>?_) (fun σ5 H5 m5=>?_)
   · open_k with [sp_whole]
     have B4:=B.same s4
     refine ⟨_,TyOf.lst hdr,true,isi_tt tt_list_list,?_⟩
     rw [if_neg (by simp)]
     refine ⟨_,lenL (SqL.of hdr),_,lenL (SqL.of B4.wd.ls),rfl,?_⟩
     rw [nats_len,List.length_map,List.length_map,B4.wd.ln,lr,if_neg (by simp)]
     refine ⟨⟨_,SqL.of hdr⟩,forb_list (xs:=nats (rn.map (· % m))) (fun i σ H'=>Mid5 K t.C_Net a tp dw x dq dd dr m k num H4 σ H') ⟨none,rfl,rfl⟩ (fun i σ H' hi ⟨v,_,e⟩=>by rw [e]; exact SqL.of hdr) ?_ ?_⟩
     · rintro i y σ H5 hy ⟨v,rfl,rfl⟩
       obtain ⟨z,hz,rfl⟩:=nats_get hy
       have hzm:z < m:=by
        obtain ⟨y,_,rfl⟩:=List.mem_map.mp (List.mem_of_getElem? hz)
        exact Nat.mod_lt _ (by omega)
       open_k with [sp_whole]
       rw [if_neg (by simp),if_pos (decide_eq_true (by omega)),if_neg (by simp; omega)]
       exact ⟨_,rfl,rfl⟩
     · rintro σ H5 h5
       exact hN _ _ h5
   refine seq_cut2 (Mid6 K t.C_Net a tp dw x dq dd dr m k num rn H4) (fun N hN=>?_) (fun σ6 H6 m6=>?_)
   · obtain ⟨v1,rfl,rfl⟩:=m5
     open_k with []
     refine ⟨by decide,fun p fp=>⟨_,lenL (SqL.of (upd_old hdr fp)),by omega,?_,?_⟩⟩
     · rw [nats_len,List.length_map,lr]; omega
     rw [nats_len,List.length_map,lr]
     refine forb_range (fun i σ H'=>∃ (v2:Option V) (ms:List Addr),σ=[some (.ref a),some (.ref tp),some (.int m),some (.int k),some (.ref dw),some (.ref x),some (.ref dq),some (.ref dd),some (.int (dueN m k:Nat)),some (.int num),some (.ref dr),v1,some (.ref p),v2,none]∧Same H5 H'∧H' p=some (.lst (ms.map V.ref))∧ms.length=i∧∀ t b,ms[t]?=some b→b ≠ p∧H' b=some (.lst (nats (metN m k rn t)))) ⟨none,[],rfl,Same.new fp,upd_same,rfl,fun t b e=>by cases e⟩ ?_ ?_
     · rintro i σ H6 hi ⟨v2,ms,rfl,s6,hp,lm,hms⟩
       rw [Int.toNat_natCast] at hi
       have hdr6:=s6 _ _ hdr
       open_k with [rIxL,rAppend,Int.zero_add]
       refine ⟨Or.inl ⟨rfl,_,SqL.of hp⟩,by omega,by omega,blk_range (fun j ys σ H'=>∃ u,σ=[u,some (.ref dr),some (.int i)]∧H'=H6∧ys=nats ((List.range j).map fun jj=>rn.getD ((i+jj) % m ^ k) 0 % m)) (by rw [Int.toNat_natCast]; exact small_le (by omega)) ⟨none,rfl,rfl,rfl⟩ ?_ ?_ ?_⟩
       · rintro j ys σ H7 hj ⟨u,rfl,rfl,rfl⟩
         rw [nats_len]; simp
       · rintro bk j ys σ H7 hj ⟨u,rfl,rfl,rfl⟩
         have hlt:(i+j) % m ^ k < rn.length:=by rw [lr]; exact Nat.mod_lt _ pos
         open_k with [rIxL,Int.zero_add]
         refine ⟨_,lenL (SqL.of hdr6),by rw [nats_len,List.length_map,lr]; omega,_,SqL.of hdr6,.int ((rn.getD ((i+j) % m ^ k) 0 % m:Nat):Int),?_,?_⟩
         · rw [nats_len,List.length_map,lr]
           have:((i:Int)+(j:Int)) % ((m ^ k:Nat):Int)=(((i+j) % m ^ k:Nat):Int):=by rw [Int.natCast_emod]; rfl
           rw [this]
           refine atI_nat ?_
           unfold nats
           rw [List.getElem?_map,List.getElem?_map,List.getD_eq_getElem?_getD,List.getElem?_eq_getElem hlt]
           rfl
         · rw [List.range_succ,List.map_append,nats_append]
           rfl
       · rintro ys σ H7 D ⟨u,rfl,rfl,rfl⟩ fD
         rw [Int.toNat_natCast] at *
         have hp7:=upd_old (o:=.lst (nats ((List.range k).map fun jj=>rn.getD ((i+jj) % m ^ k) 0 % m))) hp fD
         have s7:=s6.upd' (o:=.lst (nats ((List.range k).map fun jj=>rn.getD ((i+jj) % m ^ k) 0 % m))) fD
         have nD:D ≠ p:=fun z=>by rw [z,hp] at fD; cases fD
         refine ⟨_,hp7,by rw [List.length_map,lm]; exact Nat.lt_of_lt_of_le (show i < 1000 by omega) (by decide),fun b o e=>?_,ms++[D],by rw [upd_same]; simp,by simp [lm],fun t b e=>?_⟩
         · rw [upd_ne (ne_of_none e fp)]
           exact s7 b o e
         · by_cases ht:t < ms.length
           · rw [List.getElem?_append_left ht] at e
             obtain ⟨h1,h2⟩:=hms t b e
             exact ⟨h1,by rw [upd_ne h1]; exact upd_old h2 fD⟩
           · rw [List.getElem?_append_right (by omega)] at e
             have h0:t - ms.length=0:=by
              obtain ⟨h1,_⟩:=List.getElem?_eq_some_iff.mp e
              simpa using h1
             rw [h0] at e
             cases e
             have:t=i:=by omega
             subst this
             exact ⟨nD,by rw [upd_ne nD]; exact upd_same⟩
     · rintro σ H6 ⟨v2,ms,rfl,s6,hp,lm,hms⟩
       rw [Int.toNat_natCast] at lm
       exact hN _ _ ⟨v1,v2,p,ms,rfl,s6,hp,lm,hms⟩
   obtain ⟨v1,v2,dm,ms,rfl,s6,hdm,lm,hms⟩:=m6
   open_k with [sp_whole,rIxL,rRep]
   have B6:=(B.same s4).same s6
   have hdr6:=s6 _ _ hdr
   have row:∀ b∈ms,∃ t,t < m ^ k∧ms[t]?=some b∧H6 b=some (.lst (nats (metN m k rn t))):=fun b hb=>by
    obtain ⟨t,ht,e⟩:=List.getElem_of_mem hb
    have e2:ms[t]?=some b:=by rw [List.getElem?_eq_getElem ht,e]
    exact ⟨t,by omega,e2,(hms t b e2).2⟩
   have gv:∀ l:List Nat,gOf (some (.lst (nats l)))=intsOf l:=fun l=>by
    show (nats l).map Srt.intOf=_
    unfold nats intsOf
    rw [List.map_map]; rfl
   have em:∀ l:List Nat,nats l=(intsOf l).map V.int:=fun l=>by unfold nats intsOf; rw [List.map_map]; rfl
   have gt:∀ l:List Nat,(intsOf l).map Int.toNat=l:=fun l=>by unfold intsOf; rw [List.map_map]; simp [Function.comp_def]
   refine ⟨ms,SqL.of hdm,by omega,fun b=>gOf (H6 b),fun b hb=>?_,fun l' ps' fl hp hs=>?_⟩
   · obtain ⟨t,_,_,h⟩:=row b hb
     show H6 b=some (.lst ((gOf (H6 b)).map V.int))
     rw [h,gv,em]
   have hrows:ps'.map (fun b=>(gOf (H6 b)).map Int.toNat)=(List.range (m ^ k)).map (dg m k):=by
    refine W.words ?_ ?_
    · refine (hp.map _).trans ?_
      have e:ms.map (fun b=>(gOf (H6 b)).map Int.toNat)=(List.range (m ^ k)).map (metN m k rn):=by
       refine List.ext_getElem (by simp [lm]) fun t h1 h2=>?_
       simp only [List.getElem_map,List.getElem_range]
       have h3:t < ms.length:=by simpa using h1
       rw [(hms t _ (List.getElem?_eq_getElem h3)).2,gv,gt]
      rw [e]
      exact R.all
    · rw [List.pairwise_map]
      refine List.Pairwise.imp_of_mem (fun {b c} hb hc h=>?_) hs
      obtain ⟨t1,_,_,e1⟩:=row b (hp.subset hb)
      obtain ⟨t2,_,_,e2⟩:=row c (hp.subset hc)
      have h:HT.lexLt (gOf (H6 c)) (gOf (H6 b))=false:=h
      rw [e1,e2,gv,gv] at h
      rw [e1,e2,gv,gv,gt,gt]
      exact h
   have lp:ps'.length=m ^ k:=by rw [hp.length_eq,lm]
   have s7:=s6.upd' (o:=.lst (ps'.map V.ref)) fl
   have s67:Same H6 (upd H6 l' (.lst (ps'.map V.ref))):=Same.new fl
   have hl7:upd H6 l' (.lst (ps'.map V.ref)) l'=some (.lst (ps'.map V.ref)):=upd_same
   generalize upd H6 l' (.lst (ps'.map V.ref))=H7 at *
   have B7:=B6.same s67
   refine ⟨l',dw,_,_,fun _=>true,rfl,rfl,SqL.of hl7,SqL.of B7.wd.ls,by rw [List.length_map,List.length_map,lp,B7.wd.ln],fun j y z hy hz=>?_,?_⟩
   · rw [List.getElem?_map] at hy hz
     cases h1:ps'[j]? with
     | none=>rw [h1] at hy; cases hy
     | some b =>
      cases h2:rs[j]? with
      | none=>rw [h2] at hz; cases hz
      | some c =>
       rw [h1] at hy
       rw [h2] at hz
       cases hy; cases hz
       have hj:j < m ^ k:=by
        obtain ⟨h3,_⟩:=List.getElem?_eq_some_iff.mp h1
        omega
       obtain ⟨t1,_,_,e1⟩:=row b (hp.subset (List.mem_of_getElem? h1))
       have e3:=congrArg (fun l:List (List Nat)=>l[j]?) hrows
       simp only [List.getElem?_map] at e3
       rw [h1,List.getElem?_range hj] at e3
       have e4:metN m k rn t1=dg m k j:=by
        have:=Option.some.inj e3
        simp only at this
        rw [e1,gv,gt] at this
        exact this
       rw [e4] at e1
       have:=DEq.nats (K:=K) (s67 _ _ e1) (B7.wd.rw j c h2) rfl
       rw [decide_eq_true rfl] at this
       exact this
   refine ⟨_,rfl,?_⟩
   rw [if_neg (by simp)]
   have hdr7:=s67 _ _ hdr6
   have hdm7:=s67 _ _ hdm
   refine ⟨_,lenL (SqL.of hdr7),by rw [nats_len,List.length_map,lr]; omega,_,SqL.of hdm7,?_⟩
   rw [nats_len,List.length_map,lr]
   have hk1:k≤m ^ k * k:=Nat.le_mul_of_pos_left _ pos
   have ei:(1 - (k:Int)) % ((m ^ k:Nat):Int)=(((m ^ k * k+1 - k) % m ^ k:Nat):Int):=by
    have:(1 - (k:Int))=((m ^ k * k+1 - k:Nat):Int)+((m ^ k:Nat):Int) * (-(k:Int)):=by
     have:((m ^ k * k:Nat):Int)=((m ^ k:Nat):Int) * (k:Int):=Int.natCast_mul _ _
     rw [Int.mul_neg,← this]
     omega
    rw [this,Int.add_mul_emod_self_left,Int.natCast_emod]
   rw [ei]
   have h0:(m ^ k * k+1 - k) % m ^ k < ms.length:=by rw [lm]; exact Nat.mod_lt _ pos
   obtain ⟨b0,hb0⟩:∃ b,ms[(m ^ k * k+1 - k) % m ^ k]?=some b:=⟨_,List.getElem?_eq_getElem h0⟩
   have hm0:metN m k rn ((m ^ k * k+1 - k) % m ^ k)=List.replicate k 0:=by
    rw [R.met]
    have:((m ^ k * k+1 - k) % m ^ k+(m ^ k - 1+k)) % m ^ k=0:=by
     rw [Nat.mod_add_mod,show m ^ k * k+1 - k+(m ^ k - 1+k)=m ^ k * k+m ^ k by omega,Nat.add_mod_right,Nat.mul_mod_right]
    rw [this,R.h0,dg_zero]
   have hb7:=s67 _ _ (hms _ b0 hb0).2
   rw [hm0] at hb7
   refine ⟨.ref b0,atI_nat (by rw [List.getElem?_map,hb0]; rfl),by decide,fun p fp=>⟨_,upd_same,by omega,by omega,?_,fun p2 fp2=>?_⟩⟩
   · exact small_le (by simp; omega)
   have s78:=(Same.new (o:=.lst [V.int 0]) fp).upd' (o:=.lst (List.replicate ((k:Int)).toNat [V.int 0]).flatten) fp2
   have er:(List.replicate ((k:Int)).toNat [V.int 0]).flatten=nats (List.replicate k 0):=by
    rw [Int.toNat_natCast,List.flatten_replicate_singleton]
    unfold nats
    rw [List.map_replicate]; rfl
   have h8:upd (upd H7 p (.lst [V.int 0])) p2 (.lst (List.replicate ((k:Int)).toNat [V.int 0]).flatten) p2=some (.lst (List.replicate ((k:Int)).toNat [V.int 0]).flatten):=upd_same
   generalize upd (upd H7 p (.lst [V.int 0])) p2 (.lst (List.replicate ((k:Int)).toNat [V.int 0]).flatten)=H8 at *
   rw [er] at h8
   refine ⟨b0,p2,_,_,rfl,rfl,Or.inl ⟨SqL.of (s78 _ _ hb7),SqL.of h8⟩,by rw [em]; exact flat_ints _,by rw [em]; exact flat_ints _,_,rfl,?_⟩
   rw [if_pos rfl,em,eqVs_int_iff,decide_eq_true rfl,if_neg (by decide)]
   refine ⟨_,Or.inl (SqL.of (s78 _ _ hdr7)),fun l9 fl9=>⟨m,k,num,l9,rn,rfl,W,SqL.of upd_same,O,fun H9 s9=>⟨⟨_,rfl⟩,rfl,?_⟩⟩⟩
   rw [decide_eq_true rfl]
   exact q _
theorem law_fn (T:Txt K mg t):∃ fd:FuncData,(∀ (s:Shared) (u:Value),BindsTo s fd ⟨[u],[]⟩ [("script",u)])∧∀ base:Heap,FnOk P w K mg base CX0 11 t.f_y1 fd ["script"] (sp_law K):=by
 obtain ⟨oc,od,kV,doc,pm,an,cdv,ct,osl,e,lk,hcd⟩:=T.F_y1.ex
 refine ⟨t.d_y1,?_,fun base=>ok_y1 nox0 T⟩
 rw [e]
 exact fun s u=>.of_eq rfl
end
theorem us1 {P:List Value→Prop} (h:∀ a,P [a]):∀ us:List Value,us.length=1→P us
 | [a],_=>h a
theorem us2 {P:List Value→Prop} (h:∀ a b,P [a,b]):∀ us:List Value,us.length=2→P us
 | [a,b],_=>h a b
theorem us3 {P:List Value→Prop} (h:∀ a b c,P [a,b,c]):∀ us:List Value,us.length=3→P us
 | [a,b,c],_=>h a b c
theorem us4 {P:List Value→Prop} (h:∀ a b c d,P [a,b,c,d]):∀ us:List Value,us.length=4→P us
 | [a,b,c,d],_=>h a b c d
theorem us5 {P:List Value→Prop} (h:∀ a b c d e,P [a,b,c,d,e]):∀ us:List Value,us.length=5→P us
 | [a,b,c,d,e],_=>h a b c d e
theorem txt_mk {K:PySem.W.Frag} {h:Heap} {mg:Str→Option Value} {f_t f_e f_a f_k1 f_u f_l f_v f_e1 f_f1 f_o1 f_f f_h f_b f_c f_p f_w f_g1 f_h1 f_p1 f_s1 f_m f_t1 f_x f_y f_n f_i f_q f_x1 f_u1 f_l1 f_z f_q1 f_r f_i1 f_j f_w1 f_v1 f_a1 f_j1 f_b1 f_r1 f_g f_m1 f_k f_d f_o f_c1 f_d1 f_n1 f_s f_y1 C_BookError C_NoNet C_NoWords C_NoPlace C_NoTree C_NoRing C_NoNumber C_Net C_Tally:Addr}
 {k_MOST_PLACES k_MOST_ROADS k_MOST_SIGNS k_MOST_SIZE k_MOST_WORDS:Value}
 {od_t an_t od_e an_e od_a an_a od_k1 an_k1 od_u an_u od_l an_l od_v an_v od_e1 an_e1 od_f1 an_f1 od_o1 an_o1 od_f an_f od_h an_h od_b an_b od_c an_c od_p an_p od_w an_w od_g1 an_g1 od_h1 an_h1 od_p1 an_p1 od_s1 an_s1 od_m an_m od_t1 an_t1 od_x an_x od_y an_y od_n an_n od_i an_i od_q an_q od_x1 an_x1 od_u1 an_u1 od_l1 an_l1 od_z an_z od_q1 an_q1 od_r an_r od_i1 an_i1 od_j an_j od_w1 an_w1 od_v1 an_v1 od_a1 an_a1 od_j1 an_j1 od_b1 an_b1 od_r1 an_r1 od_g an_g od_m1 an_m1 od_k an_k od_d an_d od_o an_o od_c1 an_c1 od_d1 an_d1 od_n1 an_n1 od_s an_s od_y1 an_y1:Option Addr} {sl_t sl_e sl_a sl_k1 sl_u sl_l sl_v sl_e1 sl_f1 sl_o1 sl_f sl_h sl_b sl_c sl_p sl_w sl_g1 sl_h1 sl_p1 sl_s1 sl_m sl_t1 sl_x sl_y sl_n sl_i sl_q sl_x1 sl_u1 sl_l1 sl_z sl_q1 sl_r sl_i1 sl_j sl_w1 sl_v1 sl_a1 sl_j1 sl_b1 sl_r1 sl_g sl_m1 sl_k sl_d sl_o sl_c1 sl_d1 sl_n1 sl_s sl_y1:Array (Option Value)} {oc_t kV_t dc_t pm_t cd_t ct_t oc_e kV_e dc_e pm_e cd_e ct_e oc_a kV_a dc_a pm_a cd_a ct_a oc_k1 kV_k1 dc_k1 pm_k1 cd_k1 ct_k1 oc_u kV_u dc_u pm_u cd_u ct_u oc_l kV_l dc_l pm_l cd_l ct_l oc_v kV_v dc_v pm_v cd_v ct_v oc_e1 kV_e1 dc_e1 pm_e1 cd_e1 ct_e1 oc_f1 kV_f1 dc_f1 pm_f1 cd_f1 ct_f1 oc_o1 kV_o1 dc_o1 pm_o1 cd_o1 ct_o1 oc_f kV_f dc_f pm_f cd_f ct_f oc_h kV_h dc_h pm_h cd_h ct_h oc_b kV_b dc_b pm_b cd_b ct_b oc_c kV_c dc_c pm_c cd_c ct_c oc_p kV_p dc_p pm_p cd_p ct_p oc_w kV_w dc_w pm_w cd_w ct_w oc_g1 kV_g1 dc_g1 pm_g1 cd_g1 ct_g1 oc_h1 kV_h1 dc_h1 pm_h1 cd_h1 ct_h1 oc_p1 kV_p1 dc_p1 pm_p1 cd_p1 ct_p1 oc_s1 kV_s1 dc_s1 pm_s1 cd_s1 ct_s1 oc_m kV_m dc_m pm_m cd_m ct_m oc_t1 kV_t1 dc_t1 pm_t1 cd_t1 ct_t1 oc_x kV_x dc_x pm_x cd_x ct_x oc_y kV_y dc_y pm_y cd_y ct_y oc_n kV_n dc_n pm_n cd_n ct_n oc_i kV_i dc_i pm_i cd_i ct_i oc_q kV_q dc_q pm_q cd_q ct_q oc_x1 kV_x1 dc_x1 pm_x1 cd_x1 ct_x1 oc_u1 kV_u1 dc_u1 pm_u1 cd_u1 ct_u1 oc_l1 kV_l1 dc_l1 pm_l1 cd_l1 ct_l1 oc_z kV_z dc_z pm_z cd_z ct_z oc_q1 kV_q1 dc_q1 pm_q1 cd_q1 ct_q1 oc_r kV_r dc_r pm_r cd_r ct_r oc_i1 kV_i1 dc_i1 pm_i1 cd_i1 ct_i1 oc_j kV_j dc_j pm_j cd_j ct_j oc_w1 kV_w1 dc_w1 pm_w1 cd_w1 ct_w1 oc_v1 kV_v1 dc_v1 pm_v1 cd_v1 ct_v1 oc_a1 kV_a1 dc_a1 pm_a1 cd_a1 ct_a1 oc_j1 kV_j1 dc_j1 pm_j1 cd_j1 ct_j1 oc_b1 kV_b1 dc_b1 pm_b1 cd_b1 ct_b1 oc_r1 kV_r1 dc_r1 pm_r1 cd_r1 ct_r1 oc_g kV_g dc_g pm_g cd_g ct_g oc_m1 kV_m1 dc_m1 pm_m1 cd_m1 ct_m1 oc_k kV_k dc_k pm_k cd_k ct_k oc_d kV_d dc_d pm_d cd_d ct_d oc_o kV_o dc_o pm_o cd_o ct_o oc_c1 kV_c1 dc_c1 pm_c1 cd_c1 ct_c1 oc_d1 kV_d1 dc_d1 pm_d1 cd_d1 ct_d1 oc_n1 kV_n1 dc_n1 pm_n1 cd_n1 ct_n1 oc_s kV_s dc_s pm_s cd_s ct_s oc_y1 kV_y1 dc_y1 pm_y1 cd_y1 ct_y1:Value}
  (X:K.In h) (G:h.Ns mainGlobals mg)
  (aC_BookError:PySem.W.nsIn K mainGlobals "BookError"=some (some (.ref C_BookError)))
  (aC_NoNet:PySem.W.nsIn K mainGlobals "NoNet"=some (some (.ref C_NoNet)))
  (aC_NoWords:PySem.W.nsIn K mainGlobals "NoWords"=some (some (.ref C_NoWords)))
  (aC_NoPlace:PySem.W.nsIn K mainGlobals "NoPlace"=some (some (.ref C_NoPlace)))
  (aC_NoTree:PySem.W.nsIn K mainGlobals "NoTree"=some (some (.ref C_NoTree)))
  (aC_NoRing:PySem.W.nsIn K mainGlobals "NoRing"=some (some (.ref C_NoRing)))
  (aC_NoNumber:PySem.W.nsIn K mainGlobals "NoNumber"=some (some (.ref C_NoNumber)))
  (aC_Net:PySem.W.nsIn K mainGlobals "Net"=some (some (.ref C_Net)))
  (aC_Tally:PySem.W.nsIn K mainGlobals "Tally"=some (some (.ref C_Tally)))
  (a_t:PySem.W.nsIn K mainGlobals "lies_within"=some (some (.ref f_t)))
  (l_t:K.lookup f_t=some ⟨oc_t,od_t,.func (PySem.W.fnOf "lies_within" "lies_within" (defArgs s_t) (defBody s_t) (defScope s_t) .none kV_t dc_t pm_t an_t cd_t ct_t),sl_t⟩)
  (c_t:PySem.W.codeIn K cd_t "lies_within"=true)
  (k_t:PySem.W.keepIn K (.ref f_t)=true)
  (a_e:PySem.W.nsIn K mainGlobals "ends_lie_within"=some (some (.ref f_e)))
  (l_e:K.lookup f_e=some ⟨oc_e,od_e,.func (PySem.W.fnOf "ends_lie_within" "ends_lie_within" (defArgs s_e) (defBody s_e) (defScope s_e) .none kV_e dc_e pm_e an_e cd_e ct_e),sl_e⟩)
  (c_e:PySem.W.codeIn K cd_e "ends_lie_within"=true)
  (k_e:PySem.W.keepIn K (.ref f_e)=true)
  (a_a:PySem.W.nsIn K mainGlobals "each_place_has_exit"=some (some (.ref f_a)))
  (l_a:K.lookup f_a=some ⟨oc_a,od_a,.func (PySem.W.fnOf "each_place_has_exit" "each_place_has_exit" (defArgs s_a) (defBody s_a) (defScope s_a) .none kV_a dc_a pm_a an_a cd_a ct_a),sl_a⟩)
  (c_a:PySem.W.codeIn K cd_a "each_place_has_exit"=true)
  (k_a:PySem.W.keepIn K (.ref f_a)=true)
  (a_k1:PySem.W.nsIn K mainGlobals "check_net"=some (some (.ref f_k1)))
  (l_k1:K.lookup f_k1=some ⟨oc_k1,od_k1,.func (PySem.W.fnOf "check_net" "check_net" (defArgs s_k1) (defBody s_k1) (defScope s_k1) .none kV_k1 dc_k1 pm_k1 an_k1 cd_k1 ct_k1),sl_k1⟩)
  (c_k1:PySem.W.codeIn K cd_k1 "check_net"=true)
  (k_k1:PySem.W.keepIn K (.ref f_k1)=true)
  (a_u:PySem.W.nsIn K mainGlobals "check_place"=some (some (.ref f_u)))
  (l_u:K.lookup f_u=some ⟨oc_u,od_u,.func (PySem.W.fnOf "check_place" "check_place" (defArgs s_u) (defBody s_u) (defScope s_u) .none kV_u dc_u pm_u an_u cd_u ct_u),sl_u⟩)
  (c_u:PySem.W.codeIn K cd_u "check_place"=true)
  (k_u:PySem.W.keepIn K (.ref f_u)=true)
  (a_l:PySem.W.findIn K (.ref C_Net) "__init__"=some (some (.ref f_l)))
  (l_l:K.lookup f_l=some ⟨oc_l,od_l,.func (PySem.W.fnOf "__init__" "Net.__init__" (defArgs s_l) (defBody s_l) (defScope s_l) .none kV_l dc_l pm_l an_l cd_l ct_l),sl_l⟩)
  (c_l:PySem.W.codeIn K cd_l "Net.__init__"=true)
  (k_l:PySem.W.keepIn K (.ref f_l)=true)
  (i_l:PySem.W.isFn K (.ref f_l)=true)
  (a_v:PySem.W.findIn K (.ref C_Net) "places"=some (some (.ref f_v)))
  (l_v:K.lookup f_v=some ⟨oc_v,od_v,.func (PySem.W.fnOf "places" "Net.places" (defArgs s_v) (defBody s_v) (defScope s_v) .none kV_v dc_v pm_v an_v cd_v ct_v),sl_v⟩)
  (c_v:PySem.W.codeIn K cd_v "Net.places"=true)
  (k_v:PySem.W.keepIn K (.ref f_v)=true)
  (i_v:PySem.W.isFn K (.ref f_v)=true)
  (a_e1:PySem.W.findIn K (.ref C_Net) "roads"=some (some (.ref f_e1)))
  (l_e1:K.lookup f_e1=some ⟨oc_e1,od_e1,.func (PySem.W.fnOf "roads" "Net.roads" (defArgs s_e1) (defBody s_e1) (defScope s_e1) .none kV_e1 dc_e1 pm_e1 an_e1 cd_e1 ct_e1),sl_e1⟩)
  (c_e1:PySem.W.codeIn K cd_e1 "Net.roads"=true)
  (k_e1:PySem.W.keepIn K (.ref f_e1)=true)
  (i_e1:PySem.W.isFn K (.ref f_e1)=true)
  (a_f1:PySem.W.findIn K (.ref C_Net) "exits"=some (some (.ref f_f1)))
  (l_f1:K.lookup f_f1=some ⟨oc_f1,od_f1,.func (PySem.W.fnOf "exits" "Net.exits" (defArgs s_f1) (defBody s_f1) (defScope s_f1) .none kV_f1 dc_f1 pm_f1 an_f1 cd_f1 ct_f1),sl_f1⟩)
  (c_f1:PySem.W.codeIn K cd_f1 "Net.exits"=true)
  (k_f1:PySem.W.keepIn K (.ref f_f1)=true)
  (i_f1:PySem.W.isFn K (.ref f_f1)=true)
  (a_o1:PySem.W.nsIn K mainGlobals "lone_row"=some (some (.ref f_o1)))
  (l_o1:K.lookup f_o1=some ⟨oc_o1,od_o1,.func (PySem.W.fnOf "lone_row" "lone_row" (defArgs s_o1) (defBody s_o1) (defScope s_o1) .none kV_o1 dc_o1 pm_o1 an_o1 cd_o1 ct_o1),sl_o1⟩)
  (c_o1:PySem.W.codeIn K cd_o1 "lone_row"=true)
  (k_o1:PySem.W.keepIn K (.ref f_o1)=true)
  (a_f:PySem.W.findIn K (.ref C_Tally) "__init__"=some (some (.ref f_f)))
  (l_f:K.lookup f_f=some ⟨oc_f,od_f,.func (PySem.W.fnOf "__init__" "Tally.__init__" (defArgs s_f) (defBody s_f) (defScope s_f) .none kV_f dc_f pm_f an_f cd_f ct_f),sl_f⟩)
  (c_f:PySem.W.codeIn K cd_f "Tally.__init__"=true)
  (k_f:PySem.W.keepIn K (.ref f_f)=true)
  (i_f:PySem.W.isFn K (.ref f_f)=true)
  (a_h:PySem.W.findIn K (.ref C_Tally) "many_by"=some (some (.ref f_h)))
  (l_h:K.lookup f_h=some ⟨oc_h,od_h,.func (PySem.W.fnOf "many_by" "Tally.many_by" (defArgs s_h) (defBody s_h) (defScope s_h) .none kV_h dc_h pm_h an_h cd_h ct_h),sl_h⟩)
  (c_h:PySem.W.codeIn K cd_h "Tally.many_by"=true)
  (k_h:PySem.W.keepIn K (.ref f_h)=true)
  (i_h:PySem.W.isFn K (.ref f_h)=true)
  (a_b:PySem.W.findIn K (.ref C_Tally) "changed_row"=some (some (.ref f_b)))
  (l_b:K.lookup f_b=some ⟨oc_b,od_b,.func (PySem.W.fnOf "changed_row" "Tally.changed_row" (defArgs s_b) (defBody s_b) (defScope s_b) .none kV_b dc_b pm_b an_b cd_b ct_b),sl_b⟩)
  (c_b:PySem.W.codeIn K cd_b "Tally.changed_row"=true)
  (k_b:PySem.W.keepIn K (.ref f_b)=true)
  (i_b:PySem.W.isFn K (.ref f_b)=true)
  (a_c:PySem.W.findIn K (.ref C_Tally) "give_roads"=some (some (.ref f_c)))
  (l_c:K.lookup f_c=some ⟨oc_c,od_c,.func (PySem.W.fnOf "give_roads" "Tally.give_roads" (defArgs s_c) (defBody s_c) (defScope s_c) .none kV_c dc_c pm_c an_c cd_c ct_c),sl_c⟩)
  (c_c:PySem.W.codeIn K cd_c "Tally.give_roads"=true)
  (k_c:PySem.W.keepIn K (.ref f_c)=true)
  (i_c:PySem.W.isFn K (.ref f_c)=true)
  (a_p:PySem.W.nsIn K mainGlobals "other_places"=some (some (.ref f_p)))
  (l_p:K.lookup f_p=some ⟨oc_p,od_p,.func (PySem.W.fnOf "other_places" "other_places" (defArgs s_p) (defBody s_p) (defScope s_p) .none kV_p dc_p pm_p an_p cd_p ct_p),sl_p⟩)
  (c_p:PySem.W.codeIn K cd_p "other_places"=true)
  (k_p:PySem.W.keepIn K (.ref f_p)=true)
  (a_w:PySem.W.nsIn K mainGlobals "whole_tally"=some (some (.ref f_w)))
  (l_w:K.lookup f_w=some ⟨oc_w,od_w,.func (PySem.W.fnOf "whole_tally" "whole_tally" (defArgs s_w) (defBody s_w) (defScope s_w) .none kV_w dc_w pm_w an_w cd_w ct_w),sl_w⟩)
  (c_w:PySem.W.codeIn K cd_w "whole_tally"=true)
  (k_w:PySem.W.keepIn K (.ref f_w)=true)
  (a_g1:PySem.W.nsIn K mainGlobals "many_trees"=some (some (.ref f_g1)))
  (l_g1:K.lookup f_g1=some ⟨oc_g1,od_g1,.func (PySem.W.fnOf "many_trees" "many_trees" (defArgs s_g1) (defBody s_g1) (defScope s_g1) .none kV_g1 dc_g1 pm_g1 an_g1 cd_g1 ct_g1),sl_g1⟩)
  (c_g1:PySem.W.codeIn K cd_g1 "many_trees"=true)
  (k_g1:PySem.W.keepIn K (.ref f_g1)=true)
  (a_h1:PySem.W.nsIn K mainGlobals "many_ahead"=some (some (.ref f_h1)))
  (l_h1:K.lookup f_h1=some ⟨oc_h1,od_h1,.func (PySem.W.fnOf "many_ahead" "many_ahead" (defArgs s_h1) (defBody s_h1) (defScope s_h1) .none kV_h1 dc_h1 pm_h1 an_h1 cd_h1 ct_h1),sl_h1⟩)
  (c_h1:PySem.W.codeIn K cd_h1 "many_ahead"=true)
  (k_h1:PySem.W.keepIn K (.ref f_h1)=true)
  (a_p1:PySem.W.nsIn K mainGlobals "entry_at"=some (some (.ref f_p1)))
  (l_p1:K.lookup f_p1=some ⟨oc_p1,od_p1,.func (PySem.W.fnOf "entry_at" "entry_at" (defArgs s_p1) (defBody s_p1) (defScope s_p1) .none kV_p1 dc_p1 pm_p1 an_p1 cd_p1 ct_p1),sl_p1⟩)
  (c_p1:PySem.W.codeIn K cd_p1 "entry_at"=true)
  (k_p1:PySem.W.keepIn K (.ref f_p1)=true)
  (a_s1:PySem.W.nsIn K mainGlobals "tree_at"=some (some (.ref f_s1)))
  (l_s1:K.lookup f_s1=some ⟨oc_s1,od_s1,.func (PySem.W.fnOf "tree_at" "tree_at" (defArgs s_s1) (defBody s_s1) (defScope s_s1) .none kV_s1 dc_s1 pm_s1 an_s1 cd_s1 ct_s1),sl_s1⟩)
  (c_s1:PySem.W.codeIn K cd_s1 "tree_at"=true)
  (k_s1:PySem.W.keepIn K (.ref f_s1)=true)
  (a_m:PySem.W.nsIn K mainGlobals "comes_to_none"=some (some (.ref f_m)))
  (l_m:K.lookup f_m=some ⟨oc_m,od_m,.func (PySem.W.fnOf "comes_to_none" "comes_to_none" (defArgs s_m) (defBody s_m) (defScope s_m) .none kV_m dc_m pm_m an_m cd_m ct_m),sl_m⟩)
  (c_m:PySem.W.codeIn K cd_m "comes_to_none"=true)
  (k_m:PySem.W.keepIn K (.ref f_m)=true)
  (a_t1:PySem.W.nsIn K mainGlobals "is_tree"=some (some (.ref f_t1)))
  (l_t1:K.lookup f_t1=some ⟨oc_t1,od_t1,.func (PySem.W.fnOf "is_tree" "is_tree" (defArgs s_t1) (defBody s_t1) (defScope s_t1) .none kV_t1 dc_t1 pm_t1 an_t1 cd_t1 ct_t1),sl_t1⟩)
  (c_t1:PySem.W.codeIn K cd_t1 "is_tree"=true)
  (k_t1:PySem.W.keepIn K (.ref f_t1)=true)
  (a_x:PySem.W.nsIn K mainGlobals "tree_number"=some (some (.ref f_x)))
  (l_x:K.lookup f_x=some ⟨oc_x,od_x,.func (PySem.W.fnOf "tree_number" "tree_number" (defArgs s_x) (defBody s_x) (defScope s_x) .none kV_x dc_x pm_x an_x cd_x ct_x),sl_x⟩)
  (c_x:PySem.W.codeIn K cd_x "tree_number"=true)
  (k_x:PySem.W.keepIn K (.ref f_x)=true)
  (a_y:PySem.W.nsIn K mainGlobals "first_place"=some (some (.ref f_y)))
  (l_y:K.lookup f_y=some ⟨oc_y,od_y,.func (PySem.W.fnOf "first_place" "first_place" (defArgs s_y) (defBody s_y) (defScope s_y) .none kV_y dc_y pm_y an_y cd_y ct_y),sl_y⟩)
  (c_y:PySem.W.codeIn K cd_y "first_place"=true)
  (k_y:PySem.W.keepIn K (.ref f_y)=true)
  (a_n:PySem.W.nsIn K mainGlobals "unlike_places"=some (some (.ref f_n)))
  (l_n:K.lookup f_n=some ⟨oc_n,od_n,.func (PySem.W.fnOf "unlike_places" "unlike_places" (defArgs s_n) (defBody s_n) (defScope s_n) .none kV_n dc_n pm_n an_n cd_n ct_n),sl_n⟩)
  (c_n:PySem.W.codeIn K cd_n "unlike_places"=true)
  (k_n:PySem.W.keepIn K (.ref f_n)=true)
  (a_i:PySem.W.nsIn K mainGlobals "reached_places"=some (some (.ref f_i)))
  (l_i:K.lookup f_i=some ⟨oc_i,od_i,.func (PySem.W.fnOf "reached_places" "reached_places" (defArgs s_i) (defBody s_i) (defScope s_i) .none kV_i dc_i pm_i an_i cd_i ct_i),sl_i⟩)
  (c_i:PySem.W.codeIn K cd_i "reached_places"=true)
  (k_i:PySem.W.keepIn K (.ref f_i)=true)
  (a_q:PySem.W.nsIn K mainGlobals "apart_places"=some (some (.ref f_q)))
  (l_q:K.lookup f_q=some ⟨oc_q,od_q,.func (PySem.W.fnOf "apart_places" "apart_places" (defArgs s_q) (defBody s_q) (defScope s_q) .none kV_q dc_q pm_q an_q cd_q ct_q),sl_q⟩)
  (c_q:PySem.W.codeIn K cd_q "apart_places"=true)
  (k_q:PySem.W.keepIn K (.ref f_q)=true)
  (a_x1:PySem.W.nsIn K mainGlobals "why"=some (some (.ref f_x1)))
  (l_x1:K.lookup f_x1=some ⟨oc_x1,od_x1,.func (PySem.W.fnOf "why" "why" (defArgs s_x1) (defBody s_x1) (defScope s_x1) .none kV_x1 dc_x1 pm_x1 an_x1 cd_x1 ct_x1),sl_x1⟩)
  (c_x1:PySem.W.codeIn K cd_x1 "why"=true)
  (k_x1:PySem.W.keepIn K (.ref f_x1)=true)
  (a_u1:PySem.W.nsIn K mainGlobals "is_ring"=some (some (.ref f_u1)))
  (l_u1:K.lookup f_u1=some ⟨oc_u1,od_u1,.func (PySem.W.fnOf "is_ring" "is_ring" (defArgs s_u1) (defBody s_u1) (defScope s_u1) .none kV_u1 dc_u1 pm_u1 an_u1 cd_u1 ct_u1),sl_u1⟩)
  (c_u1:PySem.W.codeIn K cd_u1 "is_ring"=true)
  (k_u1:PySem.W.keepIn K (.ref f_u1)=true)
  (a_l1:PySem.W.nsIn K mainGlobals "factorial"=some (some (.ref f_l1)))
  (l_l1:K.lookup f_l1=some ⟨oc_l1,od_l1,.func (PySem.W.fnOf "factorial" "factorial" (defArgs s_l1) (defBody s_l1) (defScope s_l1) .none kV_l1 dc_l1 pm_l1 an_l1 cd_l1 ct_l1),sl_l1⟩)
  (c_l1:PySem.W.codeIn K cd_l1 "factorial"=true)
  (k_l1:PySem.W.keepIn K (.ref f_l1)=true)
  (a_z:PySem.W.nsIn K mainGlobals "many_orders"=some (some (.ref f_z)))
  (l_z:K.lookup f_z=some ⟨oc_z,od_z,.func (PySem.W.fnOf "many_orders" "many_orders" (defArgs s_z) (defBody s_z) (defScope s_z) .none kV_z dc_z pm_z an_z cd_z ct_z),sl_z⟩)
  (c_z:PySem.W.codeIn K cd_z "many_orders"=true)
  (k_z:PySem.W.keepIn K (.ref f_z)=true)
  (a_q1:PySem.W.nsIn K mainGlobals "order_at"=some (some (.ref f_q1)))
  (l_q1:K.lookup f_q1=some ⟨oc_q1,od_q1,.func (PySem.W.fnOf "order_at" "order_at" (defArgs s_q1) (defBody s_q1) (defScope s_q1) .none kV_q1 dc_q1 pm_q1 an_q1 cd_q1 ct_q1),sl_q1⟩)
  (c_q1:PySem.W.codeIn K cd_q1 "order_at"=true)
  (k_q1:PySem.W.keepIn K (.ref f_q1)=true)
  (a_r:PySem.W.nsIn K mainGlobals "order_number"=some (some (.ref f_r)))
  (l_r:K.lookup f_r=some ⟨oc_r,od_r,.func (PySem.W.fnOf "order_number" "order_number" (defArgs s_r) (defBody s_r) (defScope s_r) .none kV_r dc_r pm_r an_r cd_r ct_r),sl_r⟩)
  (c_r:PySem.W.codeIn K cd_r "order_number"=true)
  (k_r:PySem.W.keepIn K (.ref f_r)=true)
  (a_i1:PySem.W.nsIn K mainGlobals "many_rings"=some (some (.ref f_i1)))
  (l_i1:K.lookup f_i1=some ⟨oc_i1,od_i1,.func (PySem.W.fnOf "many_rings" "many_rings" (defArgs s_i1) (defBody s_i1) (defScope s_i1) .none kV_i1 dc_i1 pm_i1 an_i1 cd_i1 ct_i1),sl_i1⟩)
  (c_i1:PySem.W.codeIn K cd_i1 "many_rings"=true)
  (k_i1:PySem.W.keepIn K (.ref f_i1)=true)
  (a_j:PySem.W.nsIn K mainGlobals "exits_in_order"=some (some (.ref f_j)))
  (l_j:K.lookup f_j=some ⟨oc_j,od_j,.func (PySem.W.fnOf "exits_in_order" "exits_in_order" (defArgs s_j) (defBody s_j) (defScope s_j) .none kV_j dc_j pm_j an_j cd_j ct_j),sl_j⟩)
  (c_j:PySem.W.codeIn K cd_j "exits_in_order"=true)
  (k_j:PySem.W.keepIn K (.ref f_j)=true)
  (a_w1:PySem.W.nsIn K mainGlobals "walked"=some (some (.ref f_w1)))
  (l_w1:K.lookup f_w1=some ⟨oc_w1,od_w1,.func (PySem.W.fnOf "walked" "walked" (defArgs s_w1) (defBody s_w1) (defScope s_w1) .none kV_w1 dc_w1 pm_w1 an_w1 cd_w1 ct_w1),sl_w1⟩)
  (c_w1:PySem.W.codeIn K cd_w1 "walked"=true)
  (k_w1:PySem.W.keepIn K (.ref f_w1)=true)
  (a_v1:PySem.W.nsIn K mainGlobals "ring_at"=some (some (.ref f_v1)))
  (l_v1:K.lookup f_v1=some ⟨oc_v1,od_v1,.func (PySem.W.fnOf "ring_at" "ring_at" (defArgs s_v1) (defBody s_v1) (defScope s_v1) .none kV_v1 dc_v1 pm_v1 an_v1 cd_v1 ct_v1),sl_v1⟩)
  (c_v1:PySem.W.codeIn K cd_v1 "ring_at"=true)
  (k_v1:PySem.W.keepIn K (.ref f_v1)=true)
  (a_a1:PySem.W.nsIn K mainGlobals "ring_number"=some (some (.ref f_a1)))
  (l_a1:K.lookup f_a1=some ⟨oc_a1,od_a1,.func (PySem.W.fnOf "ring_number" "ring_number" (defArgs s_a1) (defBody s_a1) (defScope s_a1) .none kV_a1 dc_a1 pm_a1 an_a1 cd_a1 ct_a1),sl_a1⟩)
  (c_a1:PySem.W.codeIn K cd_a1 "ring_number"=true)
  (k_a1:PySem.W.keepIn K (.ref f_a1)=true)
  (a_j1:PySem.W.nsIn K mainGlobals "many_words"=some (some (.ref f_j1)))
  (l_j1:K.lookup f_j1=some ⟨oc_j1,od_j1,.func (PySem.W.fnOf "many_words" "many_words" (defArgs s_j1) (defBody s_j1) (defScope s_j1) .none kV_j1 dc_j1 pm_j1 an_j1 cd_j1 ct_j1),sl_j1⟩)
  (c_j1:PySem.W.codeIn K cd_j1 "many_words"=true)
  (k_j1:PySem.W.keepIn K (.ref f_j1)=true)
  (a_b1:PySem.W.nsIn K mainGlobals "check_words"=some (some (.ref f_b1)))
  (l_b1:K.lookup f_b1=some ⟨oc_b1,od_b1,.func (PySem.W.fnOf "check_words" "check_words" (defArgs s_b1) (defBody s_b1) (defScope s_b1) .none kV_b1 dc_b1 pm_b1 an_b1 cd_b1 ct_b1),sl_b1⟩)
  (c_b1:PySem.W.codeIn K cd_b1 "check_words"=true)
  (k_b1:PySem.W.keepIn K (.ref f_b1)=true)
  (a_r1:PySem.W.nsIn K mainGlobals "word_net"=some (some (.ref f_r1)))
  (l_r1:K.lookup f_r1=some ⟨oc_r1,od_r1,.func (PySem.W.fnOf "word_net" "word_net" (defArgs s_r1) (defBody s_r1) (defScope s_r1) .none kV_r1 dc_r1 pm_r1 an_r1 cd_r1 ct_r1),sl_r1⟩)
  (c_r1:PySem.W.codeIn K cd_r1 "word_net"=true)
  (k_r1:PySem.W.keepIn K (.ref f_r1)=true)
  (a_g:PySem.W.nsIn K mainGlobals "many_word_rings"=some (some (.ref f_g)))
  (l_g:K.lookup f_g=some ⟨oc_g,od_g,.func (PySem.W.fnOf "many_word_rings" "many_word_rings" (defArgs s_g) (defBody s_g) (defScope s_g) .none kV_g dc_g pm_g an_g cd_g ct_g),sl_g⟩)
  (c_g:PySem.W.codeIn K cd_g "many_word_rings"=true)
  (k_g:PySem.W.keepIn K (.ref f_g)=true)
  (a_m1:PySem.W.nsIn K mainGlobals "word_ring"=some (some (.ref f_m1)))
  (l_m1:K.lookup f_m1=some ⟨oc_m1,od_m1,.func (PySem.W.fnOf "word_ring" "word_ring" (defArgs s_m1) (defBody s_m1) (defScope s_m1) .none kV_m1 dc_m1 pm_m1 an_m1 cd_m1 ct_m1),sl_m1⟩)
  (c_m1:PySem.W.codeIn K cd_m1 "word_ring"=true)
  (k_m1:PySem.W.keepIn K (.ref f_m1)=true)
  (a_k:PySem.W.nsIn K mainGlobals "word_ending_at"=some (some (.ref f_k)))
  (l_k:K.lookup f_k=some ⟨oc_k,od_k,.func (PySem.W.fnOf "word_ending_at" "word_ending_at" (defArgs s_k) (defBody s_k) (defScope s_k) .none kV_k dc_k pm_k an_k cd_k ct_k),sl_k⟩)
  (c_k:PySem.W.codeIn K cd_k "word_ending_at"=true)
  (k_k:PySem.W.keepIn K (.ref f_k)=true)
  (a_d:PySem.W.nsIn K mainGlobals "word_ring_number"=some (some (.ref f_d)))
  (l_d:K.lookup f_d=some ⟨oc_d,od_d,.func (PySem.W.fnOf "word_ring_number" "word_ring_number" (defArgs s_d) (defBody s_d) (defScope s_d) .none kV_d dc_d pm_d an_d cd_d ct_d),sl_d⟩)
  (c_d:PySem.W.codeIn K cd_d "word_ring_number"=true)
  (k_d:PySem.W.keepIn K (.ref f_d)=true)
  (a_o:PySem.W.nsIn K mainGlobals "_law_cell_at"=some (some (.ref f_o)))
  (l_o:K.lookup f_o=some ⟨oc_o,od_o,.func (PySem.W.fnOf "_law_cell_at" "_law_cell_at" (defArgs s_o) (defBody s_o) (defScope s_o) .none kV_o dc_o pm_o an_o cd_o ct_o),sl_o⟩)
  (c_o:PySem.W.codeIn K cd_o "_law_cell_at"=true)
  (k_o:PySem.W.keepIn K (.ref f_o)=true)
  (a_c1:PySem.W.nsIn K mainGlobals "_law_whole"=some (some (.ref f_c1)))
  (l_c1:K.lookup f_c1=some ⟨oc_c1,od_c1,.func (PySem.W.fnOf "_law_whole" "_law_whole" (defArgs s_c1) (defBody s_c1) (defScope s_c1) .none kV_c1 dc_c1 pm_c1 an_c1 cd_c1 ct_c1),sl_c1⟩)
  (c_c1:PySem.W.codeIn K cd_c1 "_law_whole"=true)
  (k_c1:PySem.W.keepIn K (.ref f_c1)=true)
  (a_d1:PySem.W.nsIn K mainGlobals "_law_words"=some (some (.ref f_d1)))
  (l_d1:K.lookup f_d1=some ⟨oc_d1,od_d1,.func (PySem.W.fnOf "_law_words" "_law_words" (defArgs s_d1) (defBody s_d1) (defScope s_d1) .none kV_d1 dc_d1 pm_d1 an_d1 cd_d1 ct_d1),sl_d1⟩)
  (c_d1:PySem.W.codeIn K cd_d1 "_law_words"=true)
  (k_d1:PySem.W.keepIn K (.ref f_d1)=true)
  (a_n1:PySem.W.nsIn K mainGlobals "_law_due"=some (some (.ref f_n1)))
  (l_n1:K.lookup f_n1=some ⟨oc_n1,od_n1,.func (PySem.W.fnOf "_law_due" "_law_due" (defArgs s_n1) (defBody s_n1) (defScope s_n1) .none kV_n1 dc_n1 pm_n1 an_n1 cd_n1 ct_n1),sl_n1⟩)
  (c_n1:PySem.W.codeIn K cd_n1 "_law_due"=true)
  (k_n1:PySem.W.keepIn K (.ref f_n1)=true)
  (a_s:PySem.W.nsIn K mainGlobals "_law_choice"=some (some (.ref f_s)))
  (l_s:K.lookup f_s=some ⟨oc_s,od_s,.func (PySem.W.fnOf "_law_choice" "_law_choice" (defArgs s_s) (defBody s_s) (defScope s_s) .none kV_s dc_s pm_s an_s cd_s ct_s),sl_s⟩)
  (c_s:PySem.W.codeIn K cd_s "_law_choice"=true)
  (k_s:PySem.W.keepIn K (.ref f_s)=true)
  (a_y1:PySem.W.nsIn K mainGlobals "law"=some (some (.ref f_y1)))
  (l_y1:K.lookup f_y1=some ⟨oc_y1,od_y1,.func (PySem.W.fnOf "law" "law" (defArgs s_y1) (defBody s_y1) (defScope s_y1) .none kV_y1 dc_y1 pm_y1 an_y1 cd_y1 ct_y1),sl_y1⟩)
  (c_y1:PySem.W.codeIn K cd_y1 "law"=true)
  (k_y1:PySem.W.keepIn K (.ref f_y1)=true)
  (pg_Net:PySem.W.plainGet K C_Net Str.empty=true)
  (hd_Net:PySem.W.hasDictIn K C_Net=true)
  (po_Net:PySem.W.plainOver K C_Net=true)
  (sa_Net:PySem.W.findIn K (.ref C_Net) "__setattr__"=some (some (.builtin "object.__setattr__")))
  (mk_Net:PySem.W.makesIn K C_Net=true)
  (kc_Net:PySem.W.keepIn K (.ref C_Net)=true)
  (na_Net_place_count:PySem.W.findIn K (.ref C_Net) "place_count"=some none)
  (na_Net_road_pairs:PySem.W.findIn K (.ref C_Net) "road_pairs"=some none)
  (pg_Tally:PySem.W.plainGet K C_Tally Str.empty=true)
  (hd_Tally:PySem.W.hasDictIn K C_Tally=true)
  (po_Tally:PySem.W.plainOver K C_Tally=true)
  (sa_Tally:PySem.W.findIn K (.ref C_Tally) "__setattr__"=some (some (.builtin "object.__setattr__")))
  (mk_Tally:PySem.W.makesIn K C_Tally=true)
  (kc_Tally:PySem.W.keepIn K (.ref C_Tally)=true)
  (na_Tally_many:PySem.W.findIn K (.ref C_Tally) "many"=some none)
  (na_Tally_stopped:PySem.W.findIn K (.ref C_Tally) "stopped"=some none)
  (m_MOST_PLACES:PySem.W.nsIn K mainGlobals "MOST_PLACES"=some (some k_MOST_PLACES))
  (r_MOST_PLACES:RelV (.int 32) k_MOST_PLACES)
  (m_MOST_ROADS:PySem.W.nsIn K mainGlobals "MOST_ROADS"=some (some k_MOST_ROADS))
  (r_MOST_ROADS:RelV (.int 64) k_MOST_ROADS)
  (m_MOST_SIGNS:PySem.W.nsIn K mainGlobals "MOST_SIGNS"=some (some k_MOST_SIGNS))
  (r_MOST_SIGNS:RelV (.int 6) k_MOST_SIGNS)
  (m_MOST_SIZE:PySem.W.nsIn K mainGlobals "MOST_SIZE"=some (some k_MOST_SIZE))
  (r_MOST_SIZE:RelV (.int 6) k_MOST_SIZE)
  (m_MOST_WORDS:PySem.W.nsIn K mainGlobals "MOST_WORDS"=some (some k_MOST_WORDS))
  (r_MOST_WORDS:RelV (.int 64) k_MOST_WORDS)
  (n_len:PySem.W.nsIn K mainGlobals "len"=some none)
  (n_range:PySem.W.nsIn K mainGlobals "range"=some none)
  (n_all:PySem.W.nsIn K mainGlobals "all"=some none)
  (n_enumerate:PySem.W.nsIn K mainGlobals "enumerate"=some none)
  (n_isinstance:PySem.W.nsIn K mainGlobals "isinstance"=some none)
  (n_list:PySem.W.nsIn K mainGlobals "list"=some none)
  (n_int:PySem.W.nsIn K mainGlobals "int"=some none)
  (n_bool:PySem.W.nsIn K mainGlobals "bool"=some none)
  (n_sum:PySem.W.nsIn K mainGlobals "sum"=some none)
  (n_zip:PySem.W.nsIn K mainGlobals "zip"=some none)
  (n_sorted:PySem.W.nsIn K mainGlobals "sorted"=some none)
  : ∃ t:Adr,Txt K mg t∧t.f_y1=f_y1:=by
  refine ⟨{
   f_t:=f_t,
   d_t:=PySem.W.fnOf "lies_within" "lies_within" (defArgs s_t) (defBody s_t) (defScope s_t) .none kV_t dc_t pm_t an_t cd_t ct_t,
   f_e:=f_e,
   d_e:=PySem.W.fnOf "ends_lie_within" "ends_lie_within" (defArgs s_e) (defBody s_e) (defScope s_e) .none kV_e dc_e pm_e an_e cd_e ct_e,
   f_a:=f_a,
   d_a:=PySem.W.fnOf "each_place_has_exit" "each_place_has_exit" (defArgs s_a) (defBody s_a) (defScope s_a) .none kV_a dc_a pm_a an_a cd_a ct_a,
   f_k1:=f_k1,
   d_k1:=PySem.W.fnOf "check_net" "check_net" (defArgs s_k1) (defBody s_k1) (defScope s_k1) .none kV_k1 dc_k1 pm_k1 an_k1 cd_k1 ct_k1,
   f_u:=f_u,
   d_u:=PySem.W.fnOf "check_place" "check_place" (defArgs s_u) (defBody s_u) (defScope s_u) .none kV_u dc_u pm_u an_u cd_u ct_u,
   f_l:=f_l,
   d_l:=PySem.W.fnOf "__init__" "Net.__init__" (defArgs s_l) (defBody s_l) (defScope s_l) .none kV_l dc_l pm_l an_l cd_l ct_l,
   f_v:=f_v,
   d_v:=PySem.W.fnOf "places" "Net.places" (defArgs s_v) (defBody s_v) (defScope s_v) .none kV_v dc_v pm_v an_v cd_v ct_v,
   f_e1:=f_e1,
   d_e1:=PySem.W.fnOf "roads" "Net.roads" (defArgs s_e1) (defBody s_e1) (defScope s_e1) .none kV_e1 dc_e1 pm_e1 an_e1 cd_e1 ct_e1,
   f_f1:=f_f1,
   d_f1:=PySem.W.fnOf "exits" "Net.exits" (defArgs s_f1) (defBody s_f1) (defScope s_f1) .none kV_f1 dc_f1 pm_f1 an_f1 cd_f1 ct_f1,
   f_o1:=f_o1,
   d_o1:=PySem.W.fnOf "lone_row" "lone_row" (defArgs s_o1) (defBody s_o1) (defScope s_o1) .none kV_o1 dc_o1 pm_o1 an_o1 cd_o1 ct_o1,
   f_f:=f_f,
   d_f:=PySem.W.fnOf "__init__" "Tally.__init__" (defArgs s_f) (defBody s_f) (defScope s_f) .none kV_f dc_f pm_f an_f cd_f ct_f,
   f_h:=f_h,
   d_h:=PySem.W.fnOf "many_by" "Tally.many_by" (defArgs s_h) (defBody s_h) (defScope s_h) .none kV_h dc_h pm_h an_h cd_h ct_h,
   f_b:=f_b,
   d_b:=PySem.W.fnOf "changed_row" "Tally.changed_row" (defArgs s_b) (defBody s_b) (defScope s_b) .none kV_b dc_b pm_b an_b cd_b ct_b,
   f_c:=f_c,
   d_c:=PySem.W.fnOf "give_roads" "Tally.give_roads" (defArgs s_c) (defBody s_c) (defScope s_c) .none kV_c dc_c pm_c an_c cd_c ct_c,
   f_p:=f_p,
   d_p:=PySem.W.fnOf "other_places" "other_places" (defArgs s_p) (defBody s_p) (defScope s_p) .none kV_p dc_p pm_p an_p cd_p ct_p,
   f_w:=f_w,
   d_w:=PySem.W.fnOf "whole_tally" "whole_tally" (defArgs s_w) (defBody s_w) (defScope s_w) .none kV_w dc_w pm_w an_w cd_w ct_w,
   f_g1:=f_g1,
   d_g1:=PySem.W.fnOf "many_trees" "many_trees" (defArgs s_g1) (defBody s_g1) (defScope s_g1) .none kV_g1 dc_g1 pm_g1 an_g1 cd_g1 ct_g1,
   f_h1:=f_h1,
   d_h1:=PySem.W.fnOf "many_ahead" "many_ahead" (defArgs s_h1) (defBody s_h1) (defScope s_h1) .none kV_h1 dc_h1 pm_h1 an_h1 cd_h1 ct_h1,
   f_p1:=f_p1,
   d_p1:=PySem.W.fnOf "entry_at" "entry_at" (defArgs s_p1) (defBody s_p1) (defScope s_p1) .none kV_p1 dc_p1 pm_p1 an_p1 cd_p1 ct_p1,
   f_s1:=f_s1,
   d_s1:=PySem.W.fnOf "tree_at" "tree_at" (defArgs s_s1) (defBody s_s1) (defScope s_s1) .none kV_s1 dc_s1 pm_s1 an_s1 cd_s1 ct_s1,
   f_m:=f_m,
   d_m:=PySem.W.fnOf "comes_to_none" "comes_to_none" (defArgs s_m) (defBody s_m) (defScope s_m) .none kV_m dc_m pm_m an_m cd_m ct_m,
   f_t1:=f_t1,
   d_t1:=PySem.W.fnOf "is_tree" "is_tree" (defArgs s_t1) (defBody s_t1) (defScope s_t1) .none kV_t1 dc_t1 pm_t1 an_t1 cd_t1 ct_t1,
   f_x:=f_x,
   d_x:=PySem.W.fnOf "tree_number" "tree_number" (defArgs s_x) (defBody s_x) (defScope s_x) .none kV_x dc_x pm_x an_x cd_x ct_x,
   f_y:=f_y,
   d_y:=PySem.W.fnOf "first_place" "first_place" (defArgs s_y) (defBody s_y) (defScope s_y) .none kV_y dc_y pm_y an_y cd_y ct_y,
   f_n:=f_n,
   d_n:=PySem.W.fnOf "unlike_places" "unlike_places" (defArgs s_n) (defBody s_n) (defScope s_n) .none kV_n dc_n pm_n an_n cd_n ct_n,
   f_i:=f_i,
   d_i:=PySem.W.fnOf "reached_places" "reached_places" (defArgs s_i) (defBody s_i) (defScope s_i) .none kV_i dc_i pm_i an_i cd_i ct_i,
   f_q:=f_q,
   d_q:=PySem.W.fnOf "apart_places" "apart_places" (defArgs s_q) (defBody s_q) (defScope s_q) .none kV_q dc_q pm_q an_q cd_q ct_q,
   f_x1:=f_x1,
   d_x1:=PySem.W.fnOf "why" "why" (defArgs s_x1) (defBody s_x1) (defScope s_x1) .none kV_x1 dc_x1 pm_x1 an_x1 cd_x1 ct_x1,
   f_u1:=f_u1,
   d_u1:=PySem.W.fnOf "is_ring" "is_ring" (defArgs s_u1) (defBody s_u1) (defScope s_u1) .none kV_u1 dc_u1 pm_u1 an_u1 cd_u1 ct_u1,
   f_l1:=f_l1,
   d_l1:=PySem.W.fnOf "factorial" "factorial" (defArgs s_l1) (defBody s_l1) (defScope s_l1) .none kV_l1 dc_l1 pm_l1 an_l1 cd_l1 ct_l1,
   f_z:=f_z,
   d_z:=PySem.W.fnOf "many_orders" "many_orders" (defArgs s_z) (defBody s_z) (defScope s_z) .none kV_z dc_z pm_z an_z cd_z ct_z,
   f_q1:=f_q1,
   d_q1:=PySem.W.fnOf "order_at" "order_at" (defArgs s_q1) (defBody s_q1) (defScope s_q1) .none kV_q1 dc_q1 pm_q1 an_q1 cd_q1 ct_q1,
   f_r:=f_r,
   d_r:=PySem.W.fnOf "order_number" "order_number" (defArgs s_r) (defBody s_r) (defScope s_r) .none kV_r dc_r pm_r an_r cd_r ct_r,
   f_i1:=f_i1,
   d_i1:=PySem.W.fnOf "many_rings" "many_rings" (defArgs s_i1) (defBody s_i1) (defScope s_i1) .none kV_i1 dc_i1 pm_i1 an_i1 cd_i1 ct_i1,
   f_j:=f_j,
   d_j:=PySem.W.fnOf "exits_in_order" "exits_in_order" (defArgs s_j) (defBody s_j) (defScope s_j) .none kV_j dc_j pm_j an_j cd_j ct_j,
   f_w1:=f_w1,
   d_w1:=PySem.W.fnOf "walked" "walked" (defArgs s_w1) (defBody s_w1) (defScope s_w1) .none kV_w1 dc_w1 pm_w1 an_w1 cd_w1 ct_w1,
   f_v1:=f_v1,
   d_v1:=PySem.W.fnOf "ring_at" "ring_at" (defArgs s_v1) (defBody s_v1) (defScope s_v1) .none kV_v1 dc_v1 pm_v1 an_v1 cd_v1 ct_v1,
   f_a1:=f_a1,
   d_a1:=PySem.W.fnOf "ring_number" "ring_number" (defArgs s_a1) (defBody s_a1) (defScope s_a1) .none kV_a1 dc_a1 pm_a1 an_a1 cd_a1 ct_a1,
   f_j1:=f_j1,
   d_j1:=PySem.W.fnOf "many_words" "many_words" (defArgs s_j1) (defBody s_j1) (defScope s_j1) .none kV_j1 dc_j1 pm_j1 an_j1 cd_j1 ct_j1,
   f_b1:=f_b1,
   d_b1:=PySem.W.fnOf "check_words" "check_words" (defArgs s_b1) (defBody s_b1) (defScope s_b1) .none kV_b1 dc_b1 pm_b1 an_b1 cd_b1 ct_b1,
   f_r1:=f_r1,
   d_r1:=PySem.W.fnOf "word_net" "word_net" (defArgs s_r1) (defBody s_r1) (defScope s_r1) .none kV_r1 dc_r1 pm_r1 an_r1 cd_r1 ct_r1,
   f_g:=f_g,
   d_g:=PySem.W.fnOf "many_word_rings" "many_word_rings" (defArgs s_g) (defBody s_g) (defScope s_g) .none kV_g dc_g pm_g an_g cd_g ct_g,
   f_m1:=f_m1,
   d_m1:=PySem.W.fnOf "word_ring" "word_ring" (defArgs s_m1) (defBody s_m1) (defScope s_m1) .none kV_m1 dc_m1 pm_m1 an_m1 cd_m1 ct_m1,
   f_k:=f_k,
   d_k:=PySem.W.fnOf "word_ending_at" "word_ending_at" (defArgs s_k) (defBody s_k) (defScope s_k) .none kV_k dc_k pm_k an_k cd_k ct_k,
   f_d:=f_d,
   d_d:=PySem.W.fnOf "word_ring_number" "word_ring_number" (defArgs s_d) (defBody s_d) (defScope s_d) .none kV_d dc_d pm_d an_d cd_d ct_d,
   f_o:=f_o,
   d_o:=PySem.W.fnOf "_law_cell_at" "_law_cell_at" (defArgs s_o) (defBody s_o) (defScope s_o) .none kV_o dc_o pm_o an_o cd_o ct_o,
   f_c1:=f_c1,
   d_c1:=PySem.W.fnOf "_law_whole" "_law_whole" (defArgs s_c1) (defBody s_c1) (defScope s_c1) .none kV_c1 dc_c1 pm_c1 an_c1 cd_c1 ct_c1,
   f_d1:=f_d1,
   d_d1:=PySem.W.fnOf "_law_words" "_law_words" (defArgs s_d1) (defBody s_d1) (defScope s_d1) .none kV_d1 dc_d1 pm_d1 an_d1 cd_d1 ct_d1,
   f_n1:=f_n1,
   d_n1:=PySem.W.fnOf "_law_due" "_law_due" (defArgs s_n1) (defBody s_n1) (defScope s_n1) .none kV_n1 dc_n1 pm_n1 an_n1 cd_n1 ct_n1,
   f_s:=f_s,
   d_s:=PySem.W.fnOf "_law_choice" "_law_choice" (defArgs s_s) (defBody s_s) (defScope s_s) .none kV_s dc_s pm_s an_s cd_s ct_s,
   f_y1:=f_y1,
   d_y1:=PySem.W.fnOf "law" "law" (defArgs s_y1) (defBody s_y1) (defScope s_y1) .none kV_y1 dc_y1 pm_y1 an_y1 cd_y1 ct_y1,
   C_BookError:=C_BookError,
   C_NoNet:=C_NoNet,
   C_NoWords:=C_NoWords,
   C_NoPlace:=C_NoPlace,
   C_NoTree:=C_NoTree,
   C_NoRing:=C_NoRing,
   C_NoNumber:=C_NoNumber,
   C_Net:=C_Net,
   C_Tally:=C_Tally,
   k_MOST_PLACES:=k_MOST_PLACES,
   k_MOST_ROADS:=k_MOST_ROADS,
   k_MOST_SIGNS:=k_MOST_SIGNS,
   k_MOST_SIZE:=k_MOST_SIZE,
   k_MOST_WORDS:=k_MOST_WORDS },{
   F_t:=fun_mk (st:=s_t) l_t c_t k_t,
   b_t:=(fun_mk (st:=s_t) l_t c_t k_t).binds (ps:=["place","places"]) fun _ _ _ _ _ _=>us2 fun _ _=>rfl,
   m_t:=PySem.W.mg_of X G a_t,
   F_e:=fun_mk (st:=s_e) l_e c_e k_e,
   b_e:=(fun_mk (st:=s_e) l_e c_e k_e).binds (ps:=["roads","places"]) fun _ _ _ _ _ _=>us2 fun _ _=>rfl,
   m_e:=PySem.W.mg_of X G a_e,
   F_a:=fun_mk (st:=s_a) l_a c_a k_a,
   b_a:=(fun_mk (st:=s_a) l_a c_a k_a).binds (ps:=["roads","places"]) fun _ _ _ _ _ _=>us2 fun _ _=>rfl,
   m_a:=PySem.W.mg_of X G a_a,
   F_k1:=fun_mk (st:=s_k1) l_k1 c_k1 k_k1,
   b_k1:=(fun_mk (st:=s_k1) l_k1 c_k1 k_k1).binds (ps:=["places","roads"]) fun _ _ _ _ _ _=>us2 fun _ _=>rfl,
   m_k1:=PySem.W.mg_of X G a_k1,
   F_u:=fun_mk (st:=s_u) l_u c_u k_u,
   b_u:=(fun_mk (st:=s_u) l_u c_u k_u).binds (ps:=["place","places"]) fun _ _ _ _ _ _=>us2 fun _ _=>rfl,
   m_u:=PySem.W.mg_of X G a_u,
   F_l:=fun_mk (st:=s_l) l_l c_l k_l,
   b_l:=(fun_mk (st:=s_l) l_l c_l k_l).binds (ps:=["self","places","roads"]) fun _ _ _ _ _ _=>us3 fun _ _ _=>rfl,
   F_v:=fun_mk (st:=s_v) l_v c_v k_v,
   b_v:=(fun_mk (st:=s_v) l_v c_v k_v).binds (ps:=["self"]) fun _ _ _ _ _ _=>us1 fun _=>rfl,
   M_v:=⟨a_v,i_v,k_v⟩,
   F_e1:=fun_mk (st:=s_e1) l_e1 c_e1 k_e1,
   b_e1:=(fun_mk (st:=s_e1) l_e1 c_e1 k_e1).binds (ps:=["self"]) fun _ _ _ _ _ _=>us1 fun _=>rfl,
   M_e1:=⟨a_e1,i_e1,k_e1⟩,
   F_f1:=fun_mk (st:=s_f1) l_f1 c_f1 k_f1,
   b_f1:=(fun_mk (st:=s_f1) l_f1 c_f1 k_f1).binds (ps:=["self","place"]) fun _ _ _ _ _ _=>us2 fun _ _=>rfl,
   M_f1:=⟨a_f1,i_f1,k_f1⟩,
   F_o1:=fun_mk (st:=s_o1) l_o1 c_o1 k_o1,
   b_o1:=(fun_mk (st:=s_o1) l_o1 c_o1 k_o1).binds (ps:=["stop","places"]) fun _ _ _ _ _ _=>us2 fun _ _=>rfl,
   m_o1:=PySem.W.mg_of X G a_o1,
   F_f:=fun_mk (st:=s_f) l_f c_f k_f,
   b_f:=(fun_mk (st:=s_f) l_f c_f k_f).binds (ps:=["self","places"]) fun _ _ _ _ _ _=>us2 fun _ _=>rfl,
   F_h:=fun_mk (st:=s_h) l_h c_h k_h,
   b_h:=(fun_mk (st:=s_h) l_h c_h k_h).binds (ps:=["self","place","end"]) fun _ _ _ _ _ _=>us3 fun _ _ _=>rfl,
   M_h:=⟨a_h,i_h,k_h⟩,
   F_b:=fun_mk (st:=s_b) l_b c_b k_b,
   b_b:=(fun_mk (st:=s_b) l_b c_b k_b).binds (ps:=["self","stop","place","ends","many"]) fun _ _ _ _ _ _=>us5 fun _ _ _ _ _=>rfl,
   M_b:=⟨a_b,i_b,k_b⟩,
   F_c:=fun_mk (st:=s_c) l_c c_c k_c,
   b_c:=(fun_mk (st:=s_c) l_c c_c k_c).binds (ps:=["self","place","ends"]) fun _ _ _ _ _ _=>us3 fun _ _ _=>rfl,
   M_c:=⟨a_c,i_c,k_c⟩,
   F_p:=fun_mk (st:=s_p) l_p c_p k_p,
   b_p:=(fun_mk (st:=s_p) l_p c_p k_p).binds (ps:=["net","goal"]) fun _ _ _ _ _ _=>us2 fun _ _=>rfl,
   m_p:=PySem.W.mg_of X G a_p,
   F_w:=fun_mk (st:=s_w) l_w c_w k_w,
   b_w:=(fun_mk (st:=s_w) l_w c_w k_w).binds (ps:=["net","goal"]) fun _ _ _ _ _ _=>us2 fun _ _=>rfl,
   m_w:=PySem.W.mg_of X G a_w,
   F_g1:=fun_mk (st:=s_g1) l_g1 c_g1 k_g1,
   b_g1:=(fun_mk (st:=s_g1) l_g1 c_g1 k_g1).binds (ps:=["net","place"]) fun _ _ _ _ _ _=>us2 fun _ _=>rfl,
   m_g1:=PySem.W.mg_of X G a_g1,
   F_h1:=fun_mk (st:=s_h1) l_h1 c_h1 k_h1,
   b_h1:=(fun_mk (st:=s_h1) l_h1 c_h1 k_h1).binds (ps:=["net","tally","place","road"]) fun _ _ _ _ _ _=>us4 fun _ _ _ _=>rfl,
   m_h1:=PySem.W.mg_of X G a_h1,
   F_p1:=fun_mk (st:=s_p1) l_p1 c_p1 k_p1,
   b_p1:=(fun_mk (st:=s_p1) l_p1 c_p1 k_p1).binds (ps:=["net","tally","place","number"]) fun _ _ _ _ _ _=>us4 fun _ _ _ _=>rfl,
   m_p1:=PySem.W.mg_of X G a_p1,
   F_s1:=fun_mk (st:=s_s1) l_s1 c_s1 k_s1,
   b_s1:=(fun_mk (st:=s_s1) l_s1 c_s1 k_s1).binds (ps:=["net","place","number"]) fun _ _ _ _ _ _=>us3 fun _ _ _=>rfl,
   m_s1:=PySem.W.mg_of X G a_s1,
   F_m:=fun_mk (st:=s_m) l_m c_m k_m,
   b_m:=(fun_mk (st:=s_m) l_m c_m k_m).binds (ps:=["roads","tree","place"]) fun _ _ _ _ _ _=>us3 fun _ _ _=>rfl,
   m_m:=PySem.W.mg_of X G a_m,
   F_t1:=fun_mk (st:=s_t1) l_t1 c_t1 k_t1,
   b_t1:=(fun_mk (st:=s_t1) l_t1 c_t1 k_t1).binds (ps:=["net","goal","tree"]) fun _ _ _ _ _ _=>us3 fun _ _ _=>rfl,
   m_t1:=PySem.W.mg_of X G a_t1,
   F_x:=fun_mk (st:=s_x) l_x c_x k_x,
   b_x:=(fun_mk (st:=s_x) l_x c_x k_x).binds (ps:=["net","place","tree"]) fun _ _ _ _ _ _=>us3 fun _ _ _=>rfl,
   m_x:=PySem.W.mg_of X G a_x,
   F_y:=fun_mk (st:=s_y) l_y c_y k_y,
   b_y:=(fun_mk (st:=s_y) l_y c_y k_y).binds (ps:=["net"]) fun _ _ _ _ _ _=>us1 fun _=>rfl,
   m_y:=PySem.W.mg_of X G a_y,
   F_n:=fun_mk (st:=s_n) l_n c_n k_n,
   b_n:=(fun_mk (st:=s_n) l_n c_n k_n).binds (ps:=["net"]) fun _ _ _ _ _ _=>us1 fun _=>rfl,
   m_n:=PySem.W.mg_of X G a_n,
   F_i:=fun_mk (st:=s_i) l_i c_i k_i,
   b_i:=(fun_mk (st:=s_i) l_i c_i k_i).binds (ps:=["net"]) fun _ _ _ _ _ _=>us1 fun _=>rfl,
   m_i:=PySem.W.mg_of X G a_i,
   F_q:=fun_mk (st:=s_q) l_q c_q k_q,
   b_q:=(fun_mk (st:=s_q) l_q c_q k_q).binds (ps:=["net"]) fun _ _ _ _ _ _=>us1 fun _=>rfl,
   m_q:=PySem.W.mg_of X G a_q,
   F_x1:=fun_mk (st:=s_x1) l_x1 c_x1 k_x1,
   b_x1:=(fun_mk (st:=s_x1) l_x1 c_x1 k_x1).binds (ps:=["net"]) fun _ _ _ _ _ _=>us1 fun _=>rfl,
   m_x1:=PySem.W.mg_of X G a_x1,
   F_u1:=fun_mk (st:=s_u1) l_u1 c_u1 k_u1,
   b_u1:=(fun_mk (st:=s_u1) l_u1 c_u1 k_u1).binds (ps:=["net","ring"]) fun _ _ _ _ _ _=>us2 fun _ _=>rfl,
   m_u1:=PySem.W.mg_of X G a_u1,
   F_l1:=fun_mk (st:=s_l1) l_l1 c_l1 k_l1,
   b_l1:=(fun_mk (st:=s_l1) l_l1 c_l1 k_l1).binds (ps:=["number"]) fun _ _ _ _ _ _=>us1 fun _=>rfl,
   m_l1:=PySem.W.mg_of X G a_l1,
   F_z:=fun_mk (st:=s_z) l_z c_z k_z,
   b_z:=(fun_mk (st:=s_z) l_z c_z k_z).binds (ps:=["net"]) fun _ _ _ _ _ _=>us1 fun _=>rfl,
   m_z:=PySem.W.mg_of X G a_z,
   F_q1:=fun_mk (st:=s_q1) l_q1 c_q1 k_q1,
   b_q1:=(fun_mk (st:=s_q1) l_q1 c_q1 k_q1).binds (ps:=["free","number"]) fun _ _ _ _ _ _=>us2 fun _ _=>rfl,
   m_q1:=PySem.W.mg_of X G a_q1,
   F_r:=fun_mk (st:=s_r) l_r c_r k_r,
   b_r:=(fun_mk (st:=s_r) l_r c_r k_r).binds (ps:=["order"]) fun _ _ _ _ _ _=>us1 fun _=>rfl,
   m_r:=PySem.W.mg_of X G a_r,
   F_i1:=fun_mk (st:=s_i1) l_i1 c_i1 k_i1,
   b_i1:=(fun_mk (st:=s_i1) l_i1 c_i1 k_i1).binds (ps:=["net"]) fun _ _ _ _ _ _=>us1 fun _=>rfl,
   m_i1:=PySem.W.mg_of X G a_i1,
   F_j:=fun_mk (st:=s_j) l_j c_j k_j,
   b_j:=(fun_mk (st:=s_j) l_j c_j k_j).binds (ps:=["net","place","last","number"]) fun _ _ _ _ _ _=>us4 fun _ _ _ _=>rfl,
   m_j:=PySem.W.mg_of X G a_j,
   F_w1:=fun_mk (st:=s_w1) l_w1 c_w1 k_w1,
   b_w1:=(fun_mk (st:=s_w1) l_w1 c_w1 k_w1).binds (ps:=["net","orders"]) fun _ _ _ _ _ _=>us2 fun _ _=>rfl,
   m_w1:=PySem.W.mg_of X G a_w1,
   F_v1:=fun_mk (st:=s_v1) l_v1 c_v1 k_v1,
   b_v1:=(fun_mk (st:=s_v1) l_v1 c_v1 k_v1).binds (ps:=["net","number"]) fun _ _ _ _ _ _=>us2 fun _ _=>rfl,
   m_v1:=PySem.W.mg_of X G a_v1,
   F_a1:=fun_mk (st:=s_a1) l_a1 c_a1 k_a1,
   b_a1:=(fun_mk (st:=s_a1) l_a1 c_a1 k_a1).binds (ps:=["net","ring"]) fun _ _ _ _ _ _=>us2 fun _ _=>rfl,
   m_a1:=PySem.W.mg_of X G a_a1,
   F_j1:=fun_mk (st:=s_j1) l_j1 c_j1 k_j1,
   b_j1:=(fun_mk (st:=s_j1) l_j1 c_j1 k_j1).binds (ps:=["signs","size"]) fun _ _ _ _ _ _=>us2 fun _ _=>rfl,
   m_j1:=PySem.W.mg_of X G a_j1,
   F_b1:=fun_mk (st:=s_b1) l_b1 c_b1 k_b1,
   b_b1:=(fun_mk (st:=s_b1) l_b1 c_b1 k_b1).binds (ps:=["signs","size"]) fun _ _ _ _ _ _=>us2 fun _ _=>rfl,
   m_b1:=PySem.W.mg_of X G a_b1,
   F_r1:=fun_mk (st:=s_r1) l_r1 c_r1 k_r1,
   b_r1:=(fun_mk (st:=s_r1) l_r1 c_r1 k_r1).binds (ps:=["signs","size"]) fun _ _ _ _ _ _=>us2 fun _ _=>rfl,
   m_r1:=PySem.W.mg_of X G a_r1,
   F_g:=fun_mk (st:=s_g) l_g c_g k_g,
   b_g:=(fun_mk (st:=s_g) l_g c_g k_g).binds (ps:=["signs","size"]) fun _ _ _ _ _ _=>us2 fun _ _=>rfl,
   m_g:=PySem.W.mg_of X G a_g,
   F_m1:=fun_mk (st:=s_m1) l_m1 c_m1 k_m1,
   b_m1:=(fun_mk (st:=s_m1) l_m1 c_m1 k_m1).binds (ps:=["signs","size","number"]) fun _ _ _ _ _ _=>us3 fun _ _ _=>rfl,
   m_m1:=PySem.W.mg_of X G a_m1,
   F_k:=fun_mk (st:=s_k) l_k c_k k_k,
   b_k:=(fun_mk (st:=s_k) l_k c_k k_k).binds (ps:=["signs","size","ring","last"]) fun _ _ _ _ _ _=>us4 fun _ _ _ _=>rfl,
   m_k:=PySem.W.mg_of X G a_k,
   F_d:=fun_mk (st:=s_d) l_d c_d k_d,
   b_d:=(fun_mk (st:=s_d) l_d c_d k_d).binds (ps:=["signs","size","ring"]) fun _ _ _ _ _ _=>us3 fun _ _ _=>rfl,
   m_d:=PySem.W.mg_of X G a_d,
   F_o:=fun_mk (st:=s_o) l_o c_o k_o,
   b_o:=(fun_mk (st:=s_o) l_o c_o k_o).binds (ps:=["script","k"]) fun _ _ _ _ _ _=>us2 fun _ _=>rfl,
   m_o:=PySem.W.mg_of X G a_o,
   F_c1:=fun_mk (st:=s_c1) l_c1 c_c1 k_c1,
   b_c1:=(fun_mk (st:=s_c1) l_c1 c_c1 k_c1).binds (ps:=["found"]) fun _ _ _ _ _ _=>us1 fun _=>rfl,
   m_c1:=PySem.W.mg_of X G a_c1,
   F_d1:=fun_mk (st:=s_d1) l_d1 c_d1 k_d1,
   b_d1:=(fun_mk (st:=s_d1) l_d1 c_d1 k_d1).binds (ps:=["signs","size"]) fun _ _ _ _ _ _=>us2 fun _ _=>rfl,
   m_d1:=PySem.W.mg_of X G a_d1,
   F_n1:=fun_mk (st:=s_n1) l_n1 c_n1 k_n1,
   b_n1:=(fun_mk (st:=s_n1) l_n1 c_n1 k_n1).binds (ps:=["signs","size","many"]) fun _ _ _ _ _ _=>us3 fun _ _ _=>rfl,
   m_n1:=PySem.W.mg_of X G a_n1,
   F_s:=fun_mk (st:=s_s) l_s c_s k_s,
   b_s:=(fun_mk (st:=s_s) l_s c_s k_s).binds (ps:=["cell"]) fun _ _ _ _ _ _=>us1 fun _=>rfl,
   m_s:=PySem.W.mg_of X G a_s,
   F_y1:=fun_mk (st:=s_y1) l_y1 c_y1 k_y1,
   b_y1:=(fun_mk (st:=s_y1) l_y1 c_y1 k_y1).binds (ps:=["script"]) fun _ _ _ _ _ _=>us1 fun _=>rfl,
   m_y1:=PySem.W.mg_of X G a_y1,
   m_BookError:=PySem.W.mg_of X G aC_BookError,
   m_NoNet:=PySem.W.mg_of X G aC_NoNet,
   m_NoWords:=PySem.W.mg_of X G aC_NoWords,
   m_NoPlace:=PySem.W.mg_of X G aC_NoPlace,
   m_NoTree:=PySem.W.mg_of X G aC_NoTree,
   m_NoRing:=PySem.W.mg_of X G aC_NoRing,
   m_NoNumber:=PySem.W.mg_of X G aC_NoNumber,
   m_Net:=PySem.W.mg_of X G aC_Net,
   m_Tally:=PySem.W.mg_of X G aC_Tally,
   cl_Net:=⟨pg_Net,hd_Net,po_Net,sa_Net⟩,
   mk_Net:=⟨mk_Net,a_l,i_l,kc_Net⟩,
   na_Net_place_count:=na_Net_place_count,
   na_Net_road_pairs:=na_Net_road_pairs,
   cl_Tally:=⟨pg_Tally,hd_Tally,po_Tally,sa_Tally⟩,
   mk_Tally:=⟨mk_Tally,a_f,i_f,kc_Tally⟩,
   na_Tally_many:=na_Tally_many,
   na_Tally_stopped:=na_Tally_stopped,
   m_MOST_PLACES:=PySem.W.mg_of X G m_MOST_PLACES,
   r_MOST_PLACES:=r_MOST_PLACES,
   m_MOST_ROADS:=PySem.W.mg_of X G m_MOST_ROADS,
   r_MOST_ROADS:=r_MOST_ROADS,
   m_MOST_SIGNS:=PySem.W.mg_of X G m_MOST_SIGNS,
   r_MOST_SIGNS:=r_MOST_SIGNS,
   m_MOST_SIZE:=PySem.W.mg_of X G m_MOST_SIZE,
   r_MOST_SIZE:=r_MOST_SIZE,
   m_MOST_WORDS:=PySem.W.mg_of X G m_MOST_WORDS,
   r_MOST_WORDS:=r_MOST_WORDS,
   n_len:=PySem.W.mg_none_of X G n_len,
   n_range:=PySem.W.mg_none_of X G n_range,
   n_all:=PySem.W.mg_none_of X G n_all,
   n_enumerate:=PySem.W.mg_none_of X G n_enumerate,
   n_isinstance:=PySem.W.mg_none_of X G n_isinstance,
   n_list:=PySem.W.mg_none_of X G n_list,
   n_int:=PySem.W.mg_none_of X G n_int,
   n_bool:=PySem.W.mg_none_of X G n_bool,
   n_sum:=PySem.W.mg_none_of X G n_sum,
   n_zip:=PySem.W.mg_none_of X G n_zip,
   n_sorted:=PySem.W.mg_none_of X G n_sorted },rfl⟩
end Rb
/-! names that are taken, so that the head lays no second form of the objects of the run: it would make most of the compiled file -/
namespace PySem.W.Fast
def tw70078905783083008 := ()
def tw15272135428603972640 := ()
def tw2078578381398754368 := ()
def tw2349454544273316960 := ()
def tw353369376673907904 := ()
def tw15860240648887626944 := ()
def tw17605385077797961088 := ()
def tw7181170222303073760 := ()
def tw18306225316597568992 := ()
def tw18213879991917194784 := ()
def tw7379069990578749056 := ()
def tw17629913898369975936 := ()
def tw7320004522239591072 := ()
def tw11250270193197719232 := ()
def tw6551194305676683008 := ()
def tw7101747554268426112 := ()
def tw6530434737087630304 := ()
def tw7169001295740941345 := ()
def tw12502020778875876417 := ()
def tw7891024017641485441 := ()
def tw8001745903145870529 := ()
def tw9082145479781593313 := ()
def tw5322402561221154017 := ()
def tw14578323482348805441 := ()
def tw11319121508236548449 := ()
def tw10008694942723526017 := ()
def tw346618298586773953 := ()
def tw16901383255714646497 := ()
def tw13598138118678659777 := ()
def tw10059633538557516641 := ()
def tw9069246982949435265 := ()
def tw11406306501228814273 := ()
def tw6941766867992842177 := ()
def tw4107557067272993154 := ()
def tw12698474908969500034 := ()
def tw8147669098360254882 := ()
def tw17890792233393980066 := ()
def tw9608165320202674978 := ()
def tw8572169550742101858 := ()
def tw15609802832512562018 := ()
def tw12555851408205434818 := ()
def tw3629899678309936098 := ()
def tw13669277958098654435 := ()
def tw9309054867027036451 := ()
def tw11566119243768950147 := ()
def tw6282158038641733027 := ()
def tw5039851636551029251 := ()
def tw9591222062740370947 := ()
def tw3215000777238054435 := ()
def tw13768085633992472099 := ()
def tw10672111967175224899 := ()
def tw3671091256355056323 := ()
def tw14677613068396444387 := ()
def tw16427841885975408483 := ()
def tw7230819386119836708 := ()
def tw13729371651922671940 := ()
def tw15718019263674195428 := ()
def tw2513194672884801028 := ()
def tw14004793191742884388 := ()
def tw5374973460797891236 := ()
def tw213162383173249860 := ()
def tw587978055766852452 := ()
def tw3330223993056315236 := ()
def tw13619331904726435716 := ()
def tw15762656777513954469 := ()
def tw17116858297512211653 := ()
def tw2849339335043620101 := ()
def tw8858978833189485829 := ()
def tw17619840821173318949 := ()
def tw5979092082903157061 := ()
def tw7851585061859566949 := ()
def tw16037329517248895365 := ()
def tw9250372375549468197 := ()
def tw12887960693404721701 := ()
def tw6247511183593465477 := ()
def tw15898442761435716261 := ()
def tw7473404691381494533 := ()
def tw125905030712429670 := ()
def tw15737885612671632518 := ()
def tw17981736340668722310 := ()
def tw14959806599356922022 := ()
def tw5629588751458642150 := ()
def tw4406104860310757670 := ()
def tw589413048281003366 := ()
def tw308550264560600454 := ()
def tw13132588868402523654 := ()
def tw4834368868177820198 := ()
def tw10522596861425661542 := ()
def tw11254643615788772006 := ()
def tw8688953386176028326 := ()
def tw713665595431865062 := ()
def tw7660954703848733414 := ()
def tw13149036618935531270 := ()
def tw4516733374859072294 := ()
def tw1204352758046080838 := ()
def tw12399971210853144422 := ()
def tw2241142326974322598 := ()
def tw14750748552790367142 := ()
def tw13609719716134255590 := ()
def tw11846431529141581831 := ()
def tw10681454804795287559 := ()
def tw14424169802331193415 := ()
def tw7305194089655871559 := ()
def tw6407669459544761575 := ()
def tw4201032447638008039 := ()
def tw3537923140050710791 := ()
def tw15516138271557671463 := ()
def tw1156660167612069479 := ()
def tw9865476447763187431 := ()
def tw15214018897480841031 := ()
def tw17098178658175256423 := ()
def tw14059023523238940551 := ()
def tw17466745406523580327 := ()
def tw6716214345092615111 := ()
def tw15976709058281516264 := ()
def tw217648354278071528 := ()
def tw11999118650912518600 := ()
def tw2380084736260265416 := ()
def tw16703364743983131112 := ()
def tw4898725609992412712 := ()
def tw10774738625532109448 := ()
def tw740541384291050184 := ()
def tw9954878088125870792 := ()
def tw15876814713848123112 := ()
def tw947058608926831400 := ()
def tw17858041044372087688 := ()
def tw16645763331294823336 := ()
def tw13848064904744560584 := ()
def tw16466422946771241960 := ()
def tw4043320115892414440 := ()
def tw2586927486289318121 := ()
def tw10315947183723870473 := ()
def tw4865653789896470793 := ()
def tw6045676128635818377 := ()
def tw16735878681081492873 := ()
def tw15539366081195520489 := ()
def tw2895315269661422089 := ()
def tw2871132827849963049 := ()
def tw2787310478925117065 := ()
def tw2109391873670392585 := ()
def tw11457177973096347433 := ()
def tw967724325817116521 := ()
def tw18307324516915582857 := ()
def tw9475309280483942281 := ()
def tw11781116897806891945 := ()
def tw11955372499372629929 := ()
def tw9230527850761889737 := ()
def tw382469886626706474 := ()
def tw7755177483347172426 := ()
def tw10905817412265151594 := ()
def tw6072245999839276170 := ()
def tw7188216338889148618 := ()
def tw9302780528490929354 := ()
def tw18105550640939587818 := ()
def tw12063348762337175786 := ()
def tw765209532766552330 := ()
def tw6824823018082923786 := ()
def tw4776198998955092394 := ()
def tw3376284778066258570 := ()
def tw1872448839336775434 := ()
def tw13581787783584326474 := ()
def tw10996209931816883050 := ()
def tw9325727726720182250 := ()
def tw5950961614882302987 := ()
def tw6226357260596967563 := ()
def tw7766936751717699755 := ()
def tw16814350500014512363 := ()
def tw4126481547617176907 := ()
def tw10956173978608733547 := ()
def tw6607643170741534123 := ()
def tw15575687006931809739 := ()
def tw4227514532533153323 := ()
def tw14289723552269975179 := ()
def tw2384728082838681291 := ()
def tw7370956548525955819 := ()
def tw2906000373472237323 := ()
def tw12599690118766965515 := ()
def tw9356968297136961355 := ()
def tw17928851367719288651 := ()
def tw9252294146596104043 := ()
def tw10297691264755108811 := ()
def tw17700716497494082539 := ()
def tw14219092305438772203 := ()
def tw10327518798204639244 := ()
def tw2761154520494415884 := ()
def tw5031436331447495692 := ()
def tw3696004800772358188 := ()
def tw3324963370695509196 := ()
def tw7260563671420554444 := ()
def tw16499840667698918700 := ()
def tw7123516193308819788 := ()
def tw15980926920641016172 := ()
def tw11322653467202272620 := ()
def tw15439421508604179852 := ()
def tw12089632404281399692 := ()
def tw4060979973945985420 := ()
def tw4323874413470509484 := ()
def tw1586310958811254284 := ()
def tw14503931736178929164 := ()
def tw12839575744635702828 := ()
def tw6044676629781852940 := ()
def tw8736456883059165036 := ()
def tw14908339255005715533 := ()
def tw7008894167628770445 := ()
def tw7733844646297369773 := ()
def tw11325153053069905133 := ()
def tw2393998989564420333 := ()
def tw3557780066853400845 := ()
def tw15006372299651305773 := ()
def tw17382719972087455085 := ()
def tw774426780538336653 := ()
def tw16672694111646314925 := ()
def tw11066475277261789805 := ()
def tw16455244103907867277 := ()
def tw8878456219786115789 := ()
def tw12660528446655865581 := ()
def tw15556312544145830637 := ()
def tw6114309905553462029 := ()
def tw891949074647674701 := ()
def tw4444105783788745581 := ()
def tw641147731533379469 := ()
def tw11681188452243023789 := ()
def tw3269861628046166989 := ()
def tw12969485234268178446 := ()
def tw1702225049430830446 := ()
def tw1685044520889168462 := ()
def tw15734177147461675630 := ()
def tw8916415237629631118 := ()
def tw5925720906489676462 := ()
def tw15740610414552399630 := ()
def tw4478007348281836334 := ()
def tw6800691318171686766 := ()
def tw5952617821303989134 := ()
def tw6117197908330453934 := ()
def tw6559751982609746287 := ()
def tw16632113712054688175 := ()
def tw8591955006659822031 := ()
def tw1646370839348293103 := ()
def tw2535868386381400687 := ()
def tw17214197228577861231 := ()
def tw5730779577924604623 := ()
def tw2687568390646697839 := ()
def tw11359259340674050927 := ()
def tw649706341742497647 := ()
def tw10687652182660153295 := ()
def tw7602528356427516879 := ()
def tw11180812979918296047 := ()
def tw17735139934795554799 := ()
def tw2826305555343588400 := ()
def tw11097667717047867472 := ()
def tw5568099150158734448 := ()
def tw14122727329450019088 := ()
def tw14251297221735778608 := ()
def tw3197298888193182064 := ()
def tw5317424163212863920 := ()
def tw7672314427057167824 := ()
def tw11636016589061486128 := ()
def tw1021856340463772304 := ()
def tw11477551216459444880 := ()
def tw813713440398663344 := ()
def tw16898490543971043088 := ()
def tw1692925786283132752 := ()
def tw12984704414847830864 := ()
def tw2755994683339184112 := ()
def tw4909411707905010705 := ()
def tw370454159054412849 := ()
def tw3519399898580249745 := ()
def tw17819913202987057361 := ()
def tw8404156105306978673 := ()
def tw2792316382971740529 := ()
def tw15493959756491173265 := ()
def tw14735404917354920337 := ()
def tw6675620097465153073 := ()
def tw65121437958941265 := ()
def tw16956773191755637393 := ()
def tw3227073194770981553 := ()
def tw1018836947311702769 := ()
def tw11919233780877312785 := ()
def tw17531908993387294545 := ()
def tw16332641118609994609 := ()
def tw14290754147415667826 := ()
def tw16312411047597573394 := ()
def tw10024714386632140082 := ()
def tw6879888114414707058 := ()
def tw8018146394271379954 := ()
def tw2876701018535691858 := ()
def tw6125921843454641842 := ()
def tw16752592880424985362 := ()
def tw4954753402147681042 := ()
def tw8204900048887972754 := ()
def tw9890571407104323506 := ()
def tw10954975840167898259 := ()
def tw16512843341097466067 := ()
def tw10473968805754707219 := ()
def tw3751270245165226291 := ()
def tw10239634918832573747 := ()
def tw2810898891994806643 := ()
def tw12048974591674554931 := ()
def tw17286036054673873619 := ()
def tw16805917833849775859 := ()
def tw11899319607098031027 := ()
def tw13017110095790637043 := ()
def tw2793487727931769076 := ()
def tw16382070742345279828 := ()
def tw13471784942267258228 := ()
def tw1847645059788303892 := ()
def tw2257392942111434388 := ()
def tw13506612347576483476 := ()
def tw3797142285047470836 := ()
def tw9113413268866119572 := ()
def tw5135972824053122004 := ()
def tw5896115483788006356 := ()
def tw5514988030257516693 := ()
def tw17185854828475007189 := ()
def tw3605850870358235445 := ()
def tw12515461986839624149 := ()
def tw5378126492769044981 := ()
def tw8636687213211393589 := ()
def tw11278961962018231861 := ()
def tw3603313222258520661 := ()
def tw5373356169550248597 := ()
def tw1617197617352096469 := ()
def tw9342098716658966261 := ()
def tw11321510591401622421 := ()
def tw3580884628726256597 := ()
def tw8265700304704298134 := ()
def tw12249272577959747734 := ()
def tw2597408873293071606 := ()
def tw14905630021284144406 := ()
def tw13441977434730728758 := ()
def tw7297811142146147734 := ()
def tw14240933423557520822 := ()
def tw6978073231403120086 := ()
def tw9406086791567439446 := ()
def tw16304585841693188726 := ()
def tw10330553296265196246 := ()
def tw1546289750798777142 := ()
def tw12929501015795937142 := ()
def tw14486935027357561846 := ()
def tw9146133298458859607 := ()
def tw9846062980661197943 := ()
def tw5595067885906813175 := ()
def tw17090497627726240183 := ()
def tw3793186734629349879 := ()
def tw10265104707529591607 := ()
def tw11371949494356815703 := ()
def tw12867087921452104567 := ()
def tw17724030863703183384 := ()
def tw3720076559700570136 := ()
def tw16690430127404820568 := ()
def tw6939382361905831032 := ()
def tw7645149811415015640 := ()
def tw14664213888933143800 := ()
def tw9927142879052768504 := ()
def tw9306634290309511416 := ()
def tw9271244355826113848 := ()
def tw17810628104459678008 := ()
def tw14720491747614293304 := ()
def tw5396005965238373720 := ()
def tw4374810976811489624 := ()
def tw11109499635667247448 := ()
def tw6139378335422622072 := ()
def tw2830267436985201016 := ()
def tw17744795380873409912 := ()
def tw10450973554807219608 := ()
def tw2717921445187019160 := ()
def tw11255862570172243384 := ()
def tw7357030421757195768 := ()
def tw10799865013002815096 := ()
def tw9201638411414367864 := ()
def tw1389997098637875960 := ()
def tw15184829020729314072 := ()
def tw102673065648821016 := ()
def tw2698831839862458200 := ()
def tw1476618188560508824 := ()
def tw7881038363681978393 := ()
def tw7040418218570341497 := ()
def tw9404641324709425337 := ()
def tw12349790496051489977 := ()
def tw622878613929841977 := ()
def tw16213754629778856313 := ()
def tw6151804926354614681 := ()
def tw4504486229107429849 := ()
def tw648646591154899513 := ()
def tw7868459046336350809 := ()
def tw363571911049389689 := ()
def tw8349859783527215833 := ()
def tw2862071633268152057 := ()
def tw16232070384184172313 := ()
def tw945974096321044313 := ()
def tw5570946647473050489 := ()
def tw31740233942723513 := ()
def tw5857439774178982873 := ()
def tw348943686541613049 := ()
def tw254980218919511258 := ()
def tw9160102509447644410 := ()
def tw4987519730143973626 := ()
def tw4007543217759319290 := ()
def tw16278968181309587770 := ()
def tw4246275534069978458 := ()
def tw3021833485788207450 := ()
def tw1991623195977162138 := ()
def tw9439651237465814522 := ()
def tw7601907070398484090 := ()
def tw17125629486871809754 := ()
def tw17197702578435332986 := ()
def tw1690405302966388827 := ()
def tw8239860121596700795 := ()
def tw22148223217919131 := ()
def tw11516945430556427515 := ()
def tw14457607203879978427 := ()
def tw11129167891110346235 := ()
def tw14207432100145563227 := ()
def tw5328681944163069691 := ()
def tw3671403320287399803 := ()
def tw7817799048159432603 := ()
def tw13197225659019905947 := ()
def tw7858929137513482171 := ()
def tw241875983487599740 := ()
def tw115889456673204508 := ()
def tw9248784821130852732 := ()
def tw15299154819055183324 := ()
def tw5122639918223721980 := ()
def tw11716082542777601660 := ()
def tw10845019016644777596 := ()
def tw13985736397757870780 := ()
def tw11004503584753161245 := ()
def tw297906196503845917 := ()
def tw5869311970593381437 := ()
def tw7042607697031260221 := ()
def tw3243529749049863229 := ()
def tw10948953629180274781 := ()
def tw14568359762484650173 := ()
def tw16078067153994580285 := ()
def tw3289553400989042013 := ()
def tw1585481865640442301 := ()
def tw12014420412877483485 := ()
def tw607205040675656349 := ()
def tw3305731630638834397 := ()
def tw2403409443077495549 := ()
def tw3433834068383309565 := ()
def tw5367660373875925981 := ()
def tw2566787907527321565 := ()
def tw2885871337400103901 := ()
def tw14108574903928162301 := ()
def tw3683187546620466238 := ()
def tw17476753697840392254 := ()
def tw17784852556195176574 := ()
def tw7495432040448686238 := ()
def tw9941345675057767646 := ()
def tw8515061479009558782 := ()
def tw15670949737047614750 := ()
def tw5382796440312155678 := ()
def tw11626159911670466110 := ()
def tw13379756550481763966 := ()
def tw16073727046676790974 := ()
def tw5151935062750889726 := ()
def tw9415158449556363006 := ()
def tw17973666267381045022 := ()
def tw8985646426277489855 := ()
def tw2707511830806551903 := ()
def tw3372786061023964543 := ()
def tw17318393922835331487 := ()
def tw5426265574667509151 := ()
def tw5431801811383592415 := ()
def tw3774465391246072287 := ()
def tw16809732389213734495 := ()
def tw12665695640742596223 := ()
def tw10355155962176778975 := ()
def tw13765754498528395999 := ()
def tw2334054589552045919 := ()
def tw5990044624267178911 := ()
def tw1134351789544227807 := ()
def tw12242710634412295167 := ()
def tw3349263898337619948 := ()
end PySem.W.Fast
open PySem PySem.W PyProof.Rows
set_option maxRecDepth 100000 in
set_option maxHeartbeats 0 in
theorem PySem.Challenge.cw_ringbook_k13_word_rings_holds : PySem.Challenge.rw_ringbook_k13_word_rings.Holds := by
 w_on; o_law; k_head; (case hw=>w_witness2)
 k_fill
 refine L2.walk_ofK (l:=PySem.Challenge.rw_ringbook_k13_word_rings) (n:=63) (k:=11) (x:="script") (CX:=L2.CX0) (sp:=Rb.sp_law) rfl (by decide) rfl ⟨rfl,by decide,by decide⟩ (fun w h Y=>PySem.W.kIn_of Y) ?F (fun K H a ns hl hO hS=>Rb.law_start hl hO hS) ?C
 case F =>
  intro w mg fa h KX G hmg
  have T:∃ t:Rb.Adr,Rb.Txt (L2.KOf KX) mg t∧t.f_y1=fa:=by
   dsimp only [L2.KOf]
   have Z:=@Rb.txt_mk
   obtain ⟨t,T,e⟩:∃ t:Rb.Adr,Rb.Txt _ mg t∧mg "law"=some (.ref t.f_y1):=by
    refine' (fun q=>Exists.elim q fun t z=>⟨t,z.1,z.1.m_y1⟩) (Rb.txt_mk KX G ?_ ?_ ?_ ?_ ?_ ?_ ?_ ?_ ?_ ?_ ?_ ?_ ?_ ?_ ?_ ?_ ?_ ?_ ?_ ?_ ?_ ?_ ?_ ?_ ?_ ?_ ?_ ?_ ?_ ?_ ?_ ?_ ?_ ?_ ?_ ?_ ?_ ?_ ?_ ?_ ?_ ?_ ?_ ?_ ?_ ?_ ?_ ?_ ?_ ?_ ?_ ?_ ?_ ?_ ?_ ?_ ?_ ?_ ?_ ?_ ?_ ?_ ?_ ?_ ?_ ?_ ?_ ?_ ?_ ?_ ?_ ?_ ?_ ?_ ?_ ?_ ?_ ?_ ?_ ?_ ?_ ?_ ?_ ?_ ?_ ?_ ?_ ?_ ?_ ?_ ?_ ?_ ?_ ?_ ?_ ?_ ?_ ?_ ?_ ?_ ?_ ?_ ?_ ?_ ?_ ?_ ?_ ?_ ?_ ?_ ?_ ?_ ?_ ?_ ?_ ?_ ?_ ?_ ?_ ?_ ?_ ?_ ?_ ?_ ?_ ?_ ?_ ?_ ?_ ?_ ?_ ?_ ?_ ?_ ?_ ?_ ?_ ?_ ?_ ?_ ?_ ?_ ?_ ?_ ?_ ?_ ?_ ?_ ?_ ?_ ?_ ?_ ?_ ?_ ?_ ?_ ?_ ?_ ?_ ?_ ?_ ?_ ?_ ?_ ?_ ?_ ?_ ?_ ?_ ?_ ?_ ?_ ?_ ?_ ?_ ?_ ?_ ?_ ?_ ?_ ?_ ?_ ?_ ?_ ?_ ?_ ?_ ?_ ?_ ?_ ?_ ?_ ?_ ?_ ?_ ?_ ?_ ?_ ?_ ?_ ?_ ?_ ?_ ?_ ?_ ?_ ?_ ?_ ?_ ?_ ?_ ?_ ?_ ?_ ?_ ?_ ?_ ?_ ?_ ?_ ?_ ?_ ?_ ?_ ?_ ?_ ?_ ?_ ?_ ?_ ?_ ?_ ?_ ?_ ?_ ?_ ?_ ?_ ?_ ?_ ?_ ?_ ?_ ?_ ?_ ?_ ?_ ?_ ?_ ?_ ?_ ?_ ?_ ?_ ?_ ?_ ?_ ?_)
    all_goals try first | k_is | kernel_rfl | rfl | exact ⟨_,rfl⟩
   refine ⟨t,T,?_⟩
   have z:=e.symm.trans hmg
   injection z with z; injection z with z
  obtain ⟨t,T,e⟩:=T
  subst e
  obtain ⟨fd,hb,hF⟩:=Rb.law_fn T
  exact ⟨fd,hb,fun base kb nb=>hF base⟩
 case C=>exact fun _ _ _ _ z=>z
#print axioms PySem.Challenge.cw_ringbook_k13_word_rings_holds
