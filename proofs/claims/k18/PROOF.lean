import PyProof.Rows.All
import Wide.All
import OpenK.AllK
import Wide.FinOn
import Lean
import PyProof.EqAt
import PyProof.EqKinds
import PyProof.TupleCall
import PySem.Challenge.RW_ballastway_k18_load_rows_refused
set_option compiler.extract_closed false
set_option Elab.async false
set_option linter.all false
set_option maxRecDepth 100000
namespace L2
open PySem PySem.Spec PyProof.Rows
abbrev Key:=Sum Int Str
def Aw:Key→Value→Bool
 | .inl k,v=>Value.isInt k v
 | .inr x,v=>Value.isStrOf x v
def D9(w:World):Key→Int
 | .inl k=>hashInt k
 | .inr x=>hashStr w x
theorem cX:∀{k:Key} {v:Value},Aw k v=true→(∃i t,k=Sum.inl i∧v=Value.int i t)∨(∃x t,k=Sum.inr x∧v=Value.str x t)
 | .inl i,v,h=>by
   obtain⟨t,e⟩:=Value.isInt_shape (k:=i) (v:=v) h
   exact .inl ⟨i,t,rfl,e⟩
 | .inr x,v,h=>by
   obtain⟨t,e⟩:=Value.isStrOf_shape (x:=x) (v:=v) h
   exact .inr ⟨x,t,rfl,e⟩
theorem Bc(a b:Int):decide ((Sum.inl a:Key)=Sum.inl b)=(a==b):=by
 by_cases e:a=b
 · subst e;simp
 · have h:¬(Sum.inl a:Key)=Sum.inl b:=fun q=>e (Sum.inl.inj q)
   rw[decide_eq_false h]
   exact(beq_eq_false_iff_ne.mpr e).symm
theorem Bd(a b:Str):decide ((Sum.inr a:Key)=Sum.inr b)=decide (a=b):=by
 by_cases e:a=b
 · subst e;simp
 · have h:¬(Sum.inr a:Key)=Sum.inr b:=fun q=>e (Sum.inr.inj q)
   rw[decide_eq_false h,decide_eq_false e]
theorem Be(a:Int)(b:Str):decide ((Sum.inl a:Key)=Sum.inr b)=false:=decide_eq_false (fun q=>nomatch q)
theorem Bf(a:Str)(b:Int):decide ((Sum.inr a:Key)=Sum.inl b)=false:=decide_eq_false (fun q=>nomatch q)
def pM(prog:Program)(w:World):PySem.KeyKind prog w Key where
 is:=Aw
 hash:=D9 w
 inj:=fun v a b ha hb=>by
  rcases cX ha with⟨i,t,rfl,rfl⟩|⟨x,t,rfl,rfl⟩
  · rcases cX hb with⟨j,u,rfl,e⟩|⟨y,u,rfl,e⟩
    · injection e with e1 _;rw[e1]
    · exact nomatch e
  · rcases cX hb with⟨j,u,rfl,e⟩|⟨y,u,rfl,e⟩
    · exact nomatch e
    · injection e with e1 _;rw[e1]
 byValue:=fun k v h=>by
  rcases cX h with⟨i,t,rfl,rfl⟩|⟨x,t,rfl,rfl⟩<;>rfl
 pyHash:=fun hv h=>by
  rcases cX hv with⟨i,t,rfl,rfl⟩|⟨x,t,rfl,rfl⟩
  · exact wpAny_pyHash_int h
  · exact wpAny_pyHash_str h
 eqBool:=fun hu hv h=>by
  rcases cX hu with⟨i,t,rfl,rfl⟩|⟨x,t,rfl,rfl⟩
  · rcases cX hv with⟨j,u,rfl,rfl⟩|⟨y,u,rfl,rfl⟩
    · rw[Bc] at h;exact wpAny_eqBool_int h
    · rw[Be] at h;exact SeqAt.EqAt.int_str i t y u _ _ _ _ h
  · rcases cX hv with⟨j,u,rfl,rfl⟩|⟨y,u,rfl,rfl⟩
    · rw[Bf] at h;exact SeqAt.EqAt.str_int x t j u _ _ _ _ h
    · rw[Bd] at h;exact wpAny_eqBool_str h
 «strs»:=fun k x t v h=>by
  rcases cX h with⟨i,u,rfl,e⟩|⟨y,u,rfl,e⟩
  · exact nomatch e
  · injection e with e1 _
    subst e1
    cases v<;>rfl
end L2
namespace L2
open PySem PySem.Spec PyProof.Rows
inductive V where
 |non|bl (b:Bool)|int (i:Int)|str (x:Str)|byt (b:Array UInt8)|flt (b:UInt64)|ref (a:Addr)|ty (n:String)
 deriving DecidableEq
def RelV:V→Value→Prop
 | .non,u=>u=Value.none
 | .bl b,u=>u=Value.bool b
 | .int i,u=>∃t,u=Value.int i t
 | .str x,u=>∃t,u=Value.str x t
 | .byt b,u=>∃t,u=Value.bytes b t
 | .flt b,u=>∃t,u=Value.float b t
 | .ref a,u=>u=Value.ref a
 | .ty n,u=>u=Value.type n
abbrev Vals:List V→List Value→Prop:=Paired RelV
theorem Vals.length{xs:List V}{us:List Value}(r:Vals xs us):xs.length=us.length:=Paired.length r
theorem Vals.get:∀{xs:List V} {us:List Value} {i:Nat} {x:V},Vals xs us→xs[i]? =some x→∃u,us[i]? =some u∧RelV x u
 |_,_,_,_, .nil,e=>by simp at e
 |_,_,0,_, .cons r _,e=>by simp at e;subst e;exact⟨_,rfl,r⟩
 |_,_,i+1,x, .cons _ t,e=>by
  obtain⟨u,h1,h2⟩:=Vals.get (i:=i) (x:=x) t (by simpa using e)
  exact⟨u,by simpa using h1,h2⟩
theorem Vals.append:∀{xs ys:List V} {us ws:List Value},Vals xs us→Vals ys ws→Vals (xs++ys) (us++ws)
 |_,_,_,_, .nil,s=>s
 |_,_,_,_, .cons r t,s=> .cons r (Vals.append t s)
theorem Vals.take:∀{xs:List V} {us:List Value} (n:Nat),Vals xs us→Vals (xs.take n) (us.take n)
 |_,_,0,_=> .nil
 |_,_,_+1, .nil=> .nil
 |_,_,n+1, .cons r t=> .cons r (Vals.take n t)
theorem Vals.drop:∀{xs:List V} {us:List Value} (n:Nat),Vals xs us→Vals (xs.drop n) (us.drop n)
 |_,_,0,r=>r
 |_,_,_+1, .nil=> .nil
 |_,_,n+1, .cons _ t=>Vals.drop n t
def RelO:Option V→Option Value→Prop
 |some v,some u=>RelV v u
 |none,none=>True
 |_,_=>False
def KV{κ:Type}:List (κ×V)→List (κ×Value)→Prop:=Paired fun(p:κ×V) (q:κ×Value)=>p.1=q.1∧RelV p.2 q.2
def kV:Key→V
 | .inl i=> .int i
 | .inr x=> .str x
inductive HO where
 |lst (xs:List V)
 |tup (xs:List V)
 |dK (kvs:List (Key×V))|dT (kvs:List (List Key×V))
 |set (S:Int→Bool) (n:Nat)
 |ins (C dx:Addr) (fs:List (Str×V))
 |own (x:Addr)
 |xd (fs:List (Str×V))
 |met (f x:Addr)
 |rng (lo hi:Int)
 |frz (o:Obj) (u:HO)
 |tbl (ps:Array Value)
 |ext (φ:Heap→Prop)
abbrev Hp:=Addr→Option HO
def upd(H:Hp)(a:Addr)(o:HO):Hp:=fun b=>if b=a then some o else H b
theorem aI{H:Hp}{a:Addr}{o:HO}:upd H a o a=some o:=by unfold upd;rw[if_pos rfl]
theorem aJ{H:Hp}{a b:Addr}{o:HO}(h:b≠a):upd H a o b=H b:=by unfold upd;rw[if_neg h]
theorem aG{H:Hp}{a b:Addr}{o:HO}(h:H a=some o)(h':H b=none):a≠b:=by
 intro e;subst e;rw[h] at h';cases h'
section
variable(P:Program)(w:World)
def ObjOk(H:Hp)(h:Heap)(a:Addr):HO→Prop
 | .lst xs=>xs.length≤sizeLine∧∃(its:List Value) (n:Nat),Vals xs its∧h.get? a=some {cls:= .type "list",data:= .seq its.toArray n}
 | .tup xs=>xs.length≤sizeLine∧∃its:List Value,Vals xs its∧IsTup h a its.toArray
 | .dK kvs=>kvs.length≤sizeLine∧(a==sysModules)=false∧∃vs,KV kvs vs∧h.DictOf (pM P w) a vs
 | .dT kvs=>kvs.length≤sizeLine∧(a==sysModules)=false∧∃xs:List (List Key×Addr×Value),
  Paired (fun(p:List Key×V) (q:List Key×Addr×Value)=>p.1=q.1∧H q.2.1=some (.tup (p.1.map kV))∧RelV p.2 q.2.2) kvs xs∧
  ∃o es ep,h.get? a=some o∧o.ExactDict∧o.data= .dict es ep∧es.toList=xs.map (entryOfKey (tupleKind (pM P w)))∧(xs.map (·.1)).Nodup
 | .set S n=>h.SetOf (intKind P w) a S n
 | .ins C dx fs=>H dx=some (.own a)∧fs.length≤1000∧dx≠a∧h.get? a=some (W.instObj C dx)∧
  ∃mA,h.Ns1 dx mA∧(∀f,RelO (fs.lookup f) (mA f))∧PySem.Within mA (fs.map (·.1))
 | .own _=>∃o,h.get? a=some o
 | .xd fs=>∃mA,h.Ns1 a mA∧∀f,RelO (fs.lookup f) (mA f)
 | .rng lo hi=>∃t u v,h.get? a=some {cls:= .type "range",data:= .fields #[.int lo t, .int hi u, .int 1 v]}
 | .frz o u=>h.get? a=some o∧ObjOk H h a u
 | .tbl ps=>h.get? a=some {cls:= .none,data:= .fields ps}
 | .met f x=>h.get? a=some (W.methodObj (.ref f) (.ref x))
 | .ext φ=>φ h∧(∃o,h.get? a=some o)∧∀h1 h2:Heap,φ h1→(∀o,h1.get? a=some o→h2.get? a=some o)→φ h2
def HOk(H:Hp)(h:Heap):Prop:=∀a o,H a=some o→ObjOk P w H h a o
end
section
variable{P:Program}{w:World}{H H':Hp}{h h':Heap}{a:Addr}{o:HO}
theorem ObjOk.lt(x:ObjOk P w H h a o):a<h.objs.size:=by
 cases o with
 |lst xs=>obtain⟨_,_,_,_,e⟩:=x;exact Heap.lt_size e
 |tup xs=>obtain⟨_,_,_,p⟩:=x;exact p.lt
 |dK kvs=>obtain⟨_,_,_,_,o,_,_,e,_⟩:=x;exact Heap.lt_size e
 |dT kvs=>obtain⟨_,_,_,_,o,_,_,e,_⟩:=x;exact Heap.lt_size e
 |set S n=>obtain⟨o,_,_,_,e,_⟩:=x;exact Heap.lt_size e
 |ins C dx fs=>obtain⟨_,_,_,e,_⟩:=x;exact Heap.lt_size e
 |own y=>obtain⟨_,e⟩:=x;exact Heap.lt_size e
 |xd fs=>obtain⟨_,⟨_,_,_,e,_⟩,_⟩:=x;exact Heap.lt_size e
 |rng lo hi=>obtain⟨_,_,_,e⟩:=x;exact Heap.lt_size e
 |frz ob u=>obtain⟨e,_⟩:=x;exact Heap.lt_size e
 |tbl ps=>exact Heap.lt_size (show h.get? a=some _ from x)
 |met f y=>exact Heap.lt_size (show h.get? a=some _ from x)
 |ext φ=>obtain⟨_,⟨_,e⟩,_⟩:=x;exact Heap.lt_size e
theorem Paired.mapP{α β:Type}{F G:α→β→Prop}:∀{l₁:List α} {l₂:List β},Paired F l₁ l₂→(∀a b,F a b→G a b)→Paired G l₁ l₂
 |_,_, .nil,_=> .nil
 |_,_, .cons r t,f=> .cons (f _ _ r) (Paired.mapP t f)
theorem ObjOk.stay(x:ObjOk P w H h a o)(k:∀b u,(b=a∨H b=some (.own a))→h.get? b=some u→h'.get? b=some u)
 (ho:∀b,H b=some (.own a)→H' b=some (.own a))(ht:∀b xs,H b=some (.tup xs)→H' b=some (.tup xs)):ObjOk P w H' h' a o:=by
 induction o with
 |lst xs=>obtain⟨z,its,n,r,e⟩:=x;exact⟨z,its,n,r,k _ _ (.inl rfl) e⟩
 |tup xs=>obtain⟨z,its,r,ob,e,c⟩:=x;exact⟨z,its,r,ob,k _ _ (.inl rfl) e,c⟩
 |dK kvs=>obtain⟨z,y,vs,r,ob,es,ep,e,c⟩:=x;exact⟨z,y,vs,r,ob,es,ep,k _ _ (.inl rfl) e,c⟩
 |dT kvs=>
  obtain⟨z,y,xs,r,ob,es,ep,e,c⟩:=x
  exact⟨z,y,xs,Paired.mapP r fun p q z=>⟨z.1,ht _ _ z.2.1,z.2.2⟩,ob,es,ep,k _ _ (.inl rfl) e,c⟩
 |set S n=>obtain⟨ob,es,ep,t,e,c⟩:=x;exact⟨ob,es,ep,t,k _ _ (.inl rfl) e,c⟩
 |ins C dx fs=>
  obtain⟨d,z,ne,e,mA,⟨od,es,ep,e2,c⟩,r⟩:=x
  exact⟨ho _ d,z,ne,k _ _ (.inl rfl) e,mA,⟨od,es,ep,k _ _ (.inr d) e2,c⟩,r⟩
 |own y=>obtain⟨ob,e⟩:=x;exact⟨ob,k _ _ (.inl rfl) e⟩
 |xd fs=>obtain⟨mA,⟨od,es,ep,e,c⟩,r⟩:=x;exact⟨mA,⟨od,es,ep,k _ _ (.inl rfl) e,c⟩,r⟩
 |rng lo hi=>obtain⟨t,u,v,e⟩:=x;exact⟨t,u,v,k _ _ (.inl rfl) e⟩
 |frz ob u ih=>obtain⟨e,q⟩:=x;exact⟨k _ _ (.inl rfl) e,ih q⟩
 |tbl ps=>
  have e:h.get? a=some {cls:= .none,data:= .fields ps}:=x
  show h'.get? a=some {cls:= .none,data:= .fields ps}
  exact k a _ (.inl rfl) e
 |met f y=>
  have e:h.get? a=some (W.methodObj (.ref f) (.ref y)):=x
  show h'.get? a=some (W.methodObj (.ref f) (.ref y))
  exact k a _ (.inl rfl) e
 |ext φ=>obtain⟨p,⟨o,e⟩,st⟩:=x;exact⟨st _ _ p fun o q=>k _ _ (.inl rfl) q,⟨o,k _ _ (.inl rfl) e⟩,st⟩
theorem HOk.lt(x:HOk P w H h)(e:H a=some o):a<h.objs.size:=(x a o e).lt
theorem HOk.fresh(x:HOk P w H h)(e:h.objs.size≤a):H a=none:=by
 cases q:H a with
 |none=>rfl
 |some u=>exact absurd (Nat.lt_of_lt_of_le (x.lt q) e) (Nat.lt_irrefl _)
theorem HOk.kept(x:HOk P w H h)(k:∀b u,h.get? b=some u→h'.get? b=some u):HOk P w H h':=fun a o e=>
 (x a o e).stay (fun b u _ q=>k b u q) (fun _ q=>q) fun _ _ q=>q
theorem HOk.laid(x:HOk P w H h)(k:∀b u,h.get? b=some u→h'.get? b=some u)(hp:h.objs.size≤a)(new:ObjOk P w (upd H a o) h' a o):HOk P w (upd H a o) h':=fun b u e=>by
 have hn:=x.fresh hp
 by_cases hb:b=a
 · subst hb;rw[aI] at e;cases e;exact new
 · rw[aJ hb] at e
   exact(x b u e).stay (fun c v _ q=>k c v q) (fun c q=>by rw[aJ (aG q hn)];exact q) fun c xs q=>by rw[aJ (aG q hn)];exact q
end
def Rd(H:Hp)(a:Addr)(u:HO):Prop:=H a=some u∨∃o,H a=some (.frz o u)
theorem Rd.ok{P:Program}{w:World}{H:Hp}{h:Heap}{a:Addr}{u:HO}(r:Rd H a u)(x:HOk P w H h):ObjOk P w H h a u:=by
 rcases r with r|⟨o,r⟩
 · exact x a u r
 · obtain⟨_,q⟩:=x a _ r
   exact q
def Mut:Option HO→Prop
 |some (.lst _)=>True
 |some (.dK _)=>True
 |some (.dT _)=>True
 |some (.set _ _)=>True
 |some (.ins _ _ _)=>True
 |some (.ext _)=>True
 |_=>False
section
variable{P:Program}{w:World}{H:Hp}{h h':Heap}{x e:Addr}{o':HO}
theorem HOk.write(ok:HOk P w H h)(mu:Mut (H x))(he:e=x∨H e=some (.own x))(k:∀b u,b≠e→h.get? b=some u→h'.get? b=some u)(heo:∃u,h'.get? e=some u)
 (new:ObjOk P w (upd H x o') h' x o'):HOk P w (upd H x o') h':=fun b u q=>by
 have nown:∀c y,H c=some (.own y)→c≠x:=fun c y r z=>by subst z;rw[r] at mu;exact mu
 have ntup:∀c xs,H c=some (.tup xs)→c≠x:=fun c xs r z=>by subst z;rw[r] at mu;exact mu
 by_cases hb:b=x
 · subst hb;rw[aI] at q;cases q;exact new
 · rw[aJ hb] at q
   by_cases hbe:b=e
   · have q':H b=some (.own x):=by
      rcases he with z|z
      · exact absurd (hbe.trans z) hb
      · rw[hbe];exact z
     rw[q] at q';cases q'
     obtain⟨v,hv⟩:=heo
     exact⟨v,by rw[hbe];exact hv⟩
   · refine(ok b u q).stay (fun c v hc r=>k c v ?_ r) (fun c r=>by rw[aJ (nown c b r)];exact r) fun c xs r=>by rw[aJ (ntup c xs r)];exact r
     rcases hc with rfl|hc
     · exact hbe
     · rintro rfl
       rcases he with z|z
       · exact nown c b hc z
       · rw[hc] at z;cases z;exact hb rfl
end
structure Un(fs ex:List Addr)(H H':Hp)(h h':Heap):Prop where
 keep:∀b o,h.get? b=some o→H b=none→b∉fs→b∉ex→h'.get? b=some o
 slot:∀b o,h.get? b=some o→H b=none→b∈fs→b∉ex→∃sl,h'.get? b=some {o with slots:=sl}
 free:∀b o,h.get? b=some o→H b=none→b∉ex→H' b=none
 there:∀b o,h.get? b=some o→b∉ex→∃o',h'.get? b=some o'
 tups:∀b xs,H b=some (.tup xs)→H' b=some (.tup xs)
 frzs:∀b o u,H b=some (.frz o u)→H' b=some (.frz o u)
 tbls:∀b ps,H b=some (.tbl ps)→∃more,H' b=some (.tbl (ps++more))
section
variable{fs fs' ex ex':List Addr}{H H1 H2:Hp}{h h1 h2 h':Heap}{a x e:Addr}{o:HO}
theorem Un.any(u:Un fs ex H H1 h h1){b:Addr}{ob:Obj}(q:h.get? b=some ob)(n:H b=none)(hx:b∉ex):∃sl,h1.get? b=some {ob with slots:=sl}:=by
 by_cases hb:b∈fs
 · exact u.slot b ob q n hb hx
 · exact⟨ob.slots,u.keep b ob q n hb hx⟩
theorem Un.kept(k:∀b u,h.get? b=some u→h'.get? b=some u):Un fs ex H H h h':=
 ⟨fun b ob q _ _ _=>k b ob q,fun b ob q _ _ _=>⟨ob.slots,k b ob q⟩,fun _ _ _ n _=>n,fun b ob q _=>⟨ob,k b ob q⟩,fun _ _ q=>q,fun _ _ _ q=>q,fun _ ps q=>⟨#[],by rw[q];simp⟩⟩
theorem Un.refl:Un fs ex H H h h:=Un.kept fun _ _ q=>q
theorem Un.laid(k:∀b u,h.get? b=some u→h'.get? b=some u)(hp:h.objs.size≤a)(hn:H a=none):Un fs ex H (upd H a o) h h' where
 keep:=fun b u q _ _ _=>k b u q
 slot:=fun b u q _ _ _=>⟨u.slots,k b u q⟩
 free:=fun b u q n _=>by rw[aJ (Nat.ne_of_lt (Nat.lt_of_lt_of_le (Heap.lt_size q) hp))];exact n
 there:=fun b u q _=>⟨u,k b u q⟩
 tups:=fun b xs q=>by rw[aJ (aG q hn)];exact q
 frzs:=fun b u xs q=>by rw[aJ (aG q hn)];exact q
 tbls:=fun b ps q=>⟨#[],by rw[aJ (aG q hn),q];simp⟩
theorem Un.write(mu:Mut (H x))(he:e=x∨H e=some (.own x))(k:∀b u,b≠e→h.get? b=some u→h'.get? b=some u)(heo:∃u,h'.get? e=some u):Un fs ex H (upd H x o) h h':=by
 have hx:∀b,H b=none→b≠x:=fun b n z=>by subst z;rw[n] at mu;exact mu
 have hb:∀b,H b=none→b≠e:=fun b n z=>by
  subst z
  rcases he with r|r
  · exact hx b n r
  · rw[n] at r;cases r
 have hm:∀b u,H b=some u→¬Mut (some u)→b≠x:=fun b u q nm z=>by subst z;rw[q] at mu;exact nm mu
 refine⟨fun b u q n _ _=>k b u (hb b n) q,fun b u q n _ _=>⟨u.slots,k b u (hb b n) q⟩,fun b u q n _=>by rw[aJ (hx b n)];exact n,fun b u q _=> ?_,
  fun b xs q=>by rw[aJ (hm b _ q fun z=>z)];exact q,fun b u xs q=>by rw[aJ (hm b _ q fun z=>z)];exact q,fun b ps q=>⟨#[],by rw[aJ (hm b _ q fun z=>z),q];simp⟩⟩
 by_cases hbe:b=e
 · subst hbe;exact heo
 · exact⟨u,k b u hbe q⟩
end
def trk(h:Heap)(H:Hp):List Addr:=(List.range h.objs.size).filter fun a=>(H a).isSome
def pN(h:Heap)(H:Hp):Heap:=W.hideAll h (trk h H)
theorem u9(h:Heap)(H:Hp):(pN h H).objs.size=h.objs.size:=W.hideAll_size _ _
theorem vO{h:Heap}{H:Hp}{b:Addr}{o:Obj}(e:h.get? b=some o)(n:H b=none):(pN h H).get? b=some o:=
 W.hideAll_get _ e fun hm=>by
  have q:(H b).isSome=true:=(List.mem_filter.mp hm).2
  rw[n] at q;simp at q
theorem yV{h:Heap}{H:Hp}{b:Addr}{o:Obj}(e:(pN h H).get? b=some o):h.get? b=some o∧H b=none:=by
 have e':h.get? b=some o:=W.of_hideAll (trk h H) e
 refine⟨e', ?_⟩
 cases q:H b with
 |none=>rfl
 |some x=>
  have hm:b∈trk h H:=List.mem_filter.mpr ⟨List.mem_range.mpr (Heap.lt_size e'),by simp[q]⟩
  have z:(pN h H).get? b=none:=W.hideAll_none (trk h H) hm
  rw[z] at e;cases e
def yW(g h:Heap)(L:Addr):List (Addr×Obj):=(List.range h.objs.size).filterMap fun a=>if a=L∨(g.get? a).isSome=true then none else(h.get? a).map fun o=>(a,o)
def rest(g h:Heap)(L d:Addr):List (Addr×Obj):=(yW g h L).filter fun p=>decide (p.1≠d)
end L2
namespace L2
open PySem PySem.Spec PyProof.Rows
structure Mod(K:W.Frag)(mg:Str→Option Value)(base:Heap):Prop where
 kin:K.In base
 glob:base.Ns mainGlobals mg
 blt:∃mb,base.Ns builtinsNs mb∧∀x:Str,x≠"__name__"→mb x=bootBuiltins x
 nolimit:base.NoLimit
structure Cx where
 prog:Program
 w:World
 K:W.Frag
 mg:Str→Option Value
 base:Heap
 A:Around
 N:List Str
 s₀:Shared
 H₀:Hp
 env:Env
 outer:List Env
 stack:List Env
 ex:List Addr
 fn:Str→Bool
 calm:Bool
 pn:List (Addr×Obj)
 xe:Value→Shared→Prop
def frs(l:List Env):List Addr:=l.filterMap (·.frame)
abbrev Cx.fs(X:Cx):List Addr:=frs X.outer
def Vis(sc:Scope)(x:Str):Prop:=sc.names.lookup x=some .local∨sc.names.lookup x=some .cell∨sc.names.lookup x=some .free
def Loc(sc:Scope)(x:Str):Prop:=sc.names.lookup x=some .local∨sc.names.lookup x=some .cell
def Ea(env:Env)(h:Heap)(m:Str→Option Value)(x:Str)(u:Value):Prop:=
 (env.kindOf x=some .local∧m x=some u)∨((env.kindOf x=some .cell∨env.kindOf x=some .free)∧∃c,env.cells.lookup x=some c∧h.IsCell c (some u))
structure Cx.Ok(X:Cx):Prop where
 mod:Mod X.K X.mg X.base
 kind:X.env.scope.kind= .function
 glob:X.env.globals=mainGlobals
 blt:X.env.builtins=builtinsNs
 above:X.s₀.heap.objs.size≤X.env.locals
 inj:∀x y c,X.env.cells.lookup x=some c→X.env.cells.lookup y=some c→x=y
 has:∀x,(X.env.kindOf x=some .cell∨X.env.kindOf x=some .free)→∃c,X.env.cells.lookup x=some c
 cab:∀x c,X.fn x=true→X.env.cells.lookup x=some c→X.s₀.heap.objs.size≤c
 hd:X.calm=true→X.A.handled=none
 frames:X.A.frames=some X.stack
 stk:X.stack=X.outer∨(X.stack=X.env::X.outer∧X.env.frame=some X.env.locals)
 exf:∀b∈X.ex,b≠X.env.locals∧∀x c,X.env.cells.lookup x=some c→c≠b
 bs:∀b o,X.base.get? b=some o→X.s₀.heap.get? b=some o∧X.H₀ b=none
 bsz:X.base.objs.size≤X.s₀.heap.objs.size
 noex:∀b o,X.base.get? b=some o→b∉X.ex
 exfs:∀b∈X.ex,b∉X.fs
 funs:X.s₀.heap.FunFrames X.base X.outer
 frf:∀b∈X.fs,X.H₀ b=none
structure Inv(X:Cx)(pins:List (Addr×Obj))(σ:List (Option V))(H:Hp)(s:Shared):Prop where
 ok:X.Ok
 os:s.os=X.s₀.os
 bare:AllBare s.gens
 base:Un X.fs X.ex X.H₀ H X.s₀.heap s.heap
 loc:∃m,s.heap.Ns X.env.locals m∧∀(i:Nat) (x:Str) (v:V),X.N[i]? =some x→σ[i]? =some (some v)→Vis X.env.scope x→∃u,RelV v u∧Ea X.env s.heap m x u
 cell:∀x c,X.env.cells.lookup x=some c→∃v,s.heap.IsCell c v
 free:H X.env.locals=none
 freeC:∀x c,X.env.cells.lookup x=some c→H c=none
 pin:∀p∈X.pn++pins,s.heap.get? p.1=some p.2∧H p.1=none∧p.1≠X.env.locals∧p.1∉X.fs∧∀v,p.2.data≠ .cell v
 hok:HOk X.prog X.w H s.heap
 len:σ.length=X.N.length
section
variable{X:Cx}{pins:List (Addr×Obj)}{σ:List (Option V)}{H H':Hp}{s:Shared}{h':Heap}
theorem Cx.Ok.nofr(ok:X.Ok){b:Addr}{o:Obj}(e:X.base.get? b=some o):b∉X.fs:=fun hb=>by
 have:=(ok.funs.mem hb).1
 rw[e] at this;cases this
theorem Inv.bs(I:Inv X pins σ H s):∀b o,X.base.get? b=some o→s.heap.get? b=some o∧H b=none:=fun b o e=>
 ⟨I.base.keep b o (I.ok.bs b o e).1 (I.ok.bs b o e).2 (I.ok.nofr e) (I.ok.noex b o e),I.base.free b o (I.ok.bs b o e).1 (I.ok.bs b o e).2 (I.ok.noex b o e)⟩
theorem Inv.bk(I:Inv X pins σ H s):∀b o,X.base.get? b=some o→s.heap.get? b=some o:=fun b o e=>(I.bs b o e).1
theorem Inv.mod(I:Inv X pins σ H s):Mod X.K X.mg X.base:=I.ok.mod
theorem Inv.kIn(I:Inv X pins σ H s):X.K.In s.heap:=I.ok.mod.kin.keeps I.bk
theorem Inv.lt(I:Inv X pins σ H s):X.env.locals<s.heap.objs.size:=let⟨_,hn,_⟩:=I.loc;hn.lt
theorem Inv.sz(I:Inv X pins σ H s):X.s₀.heap.objs.size≤s.heap.objs.size:=Nat.le_trans I.ok.above (Nat.le_of_lt I.lt)
theorem Inv.nofs(I:Inv X pins σ H s){a:Addr}(h:s.heap.objs.size≤a):a∉X.fs:=fun hb=>by
 obtain⟨_,o,ho,_⟩:=I.ok.funs.mem hb
 exact absurd (Nat.lt_of_lt_of_le (Heap.lt_size ho) (Nat.le_trans I.sz h)) (Nat.lt_irrefl _)
theorem Inv.cne(I:Inv X pins σ H s):∀x c,X.env.cells.lookup x=some c→c≠X.env.locals:=fun x c e z=>by
 obtain⟨v,o,ho,hd⟩:=I.cell x c e
 obtain⟨m,⟨o',es,ep,ho',hd',_⟩,_⟩:=I.loc
 rw[z,ho'] at ho;cases ho;rw[hd'] at hd;cases hd
theorem Inv.funs(I:Inv X pins σ H s):s.heap.FunFrames X.base X.outer:=by
 have all:∀(l:List Env),(∀b∈frs l,b∈X.fs)→X.s₀.heap.FunFrames X.base l→s.heap.FunFrames X.base l:=by
  intro l
  induction l with
  |nil=>intro _ _;trivial
  |cons env r ih=>
   intro hs hl
   obtain⟨hk,⟨L,o,hf,hn,ho,hd⟩,hr⟩:=hl
   have hL:L∈X.fs:=hs L (by unfold frs;rw[List.filterMap_cons,hf];exact List.mem_cons_self)
   obtain⟨sl,e⟩:=I.base.slot L o ho (I.ok.frf L hL) hL fun z=>I.ok.exfs L z hL
   exact⟨hk,⟨L,_,hf,hn,e,hd⟩,ih (fun b hb=>hs b (by unfold frs;rw[List.filterMap_cons,hf];exact List.mem_cons_of_mem _ hb)) hr⟩
 exact all X.outer (fun _ hb=>hb) I.ok.funs
theorem Inv.stack(I:Inv X pins σ H s):s.heap.FunFrames X.base X.stack:=by
 rcases I.ok.stk with e|⟨e,hf⟩
 · rw[e];exact I.funs
 · rw[e]
   obtain⟨m,hn,_⟩:=I.loc
   refine .cons (by rw[I.ok.kind];decide) hf hn ?_ I.funs
   exact Heap.get?_none_of_le (Nat.le_trans I.ok.bsz I.ok.above)
theorem Inv.stkSub(I:Inv X pins σ H s):∀b∈frs X.stack,b∈X.env.locals::X.fs:=fun b hb=>by
 rcases I.ok.stk with e|⟨e,hf⟩
 · rw[e] at hb;exact List.mem_cons_of_mem _ hb
 · rw[e] at hb
   unfold frs at hb
   rw[List.filterMap_cons,hf] at hb
   exact hb
theorem Inv.stkFree(I:Inv X pins σ H s):∀b∈frs X.stack,H b=none:=fun b hb=>by
 rcases List.mem_cons.mp (I.stkSub b hb) with e|hb
 · rw[e];exact I.free
 · obtain⟨_,o,ho,_⟩:=I.ok.funs.mem hb
   exact I.base.free b o ho (I.ok.frf b hb) fun z=>I.ok.exfs b z hb
theorem Inv.step{g':Array GenState}{t':Nat}{d':Drawn}{ch:List Addr}(I:Inv X pins σ H s)
 (hch:∀b∈ch,(b∈X.ex∨X.s₀.heap.objs.size≤b)∧b≠X.env.locals∧(∀x c,X.env.cells.lookup x=some c→c≠b)∧∀p∈X.pn++pins,p.1≠b)
 (keep:∀b o,b≠X.env.locals→b∉X.fs→b∉ch→s.heap.get? b=some o→H b=none→h'.get? b=some o)
 (slot:∀b o,b≠X.env.locals→b∈X.fs→b∉ch→s.heap.get? b=some o→H b=none→∃sl,h'.get? b=some {o with slots:=sl})(free:∀b o,b∉ch→s.heap.get? b=some o→H b=none→H' b=none)
 (there:∀b o,b∉ch→s.heap.get? b=some o→∃o',h'.get? b=some o')
 (tups:∀b xs,H b=some (.tup xs)→H' b=some (.tup xs))(frzs:∀b o u,H b=some (.frz o u)→H' b=some (.frz o u))(tbls:∀b ps,H b=some (.tbl ps)→∃more,H' b=some (.tbl (ps++more)))
 (ns:∀m,s.heap.Ns X.env.locals m→h'.Ns X.env.locals m)(hok:HOk X.prog X.w H' h')(hg:AllBare g'):
 Inv X pins σ H' {s with heap:=h',gens:=g',drawn:=d',toks:=t'}:=by
 have neL:∀b o,X.s₀.heap.get? b=some o→b≠X.env.locals:=fun b o e=>Nat.ne_of_lt (Nat.lt_of_lt_of_le (Heap.lt_size e) I.ok.above)
 have neC:∀b o,X.s₀.heap.get? b=some o→b∉X.ex→b∉ch:=fun b o e hx hb=>by
  rcases(hch b hb).1 with z|z
  · exact hx z
  · exact absurd (Nat.lt_of_lt_of_le (Heap.lt_size e) z) (Nat.lt_irrefl _)
 have cellK:∀x c,X.env.cells.lookup x=some c→∀v,s.heap.IsCell c v→h'.IsCell c v:=fun x c e v ⟨o,ho,hd⟩=>by
  have nch:c∉ch:=fun z=>(hch c z).2.2.1 x c e rfl
  by_cases hc:c∈X.fs
  · obtain⟨sl,q⟩:=slot c o (I.cne x c e) hc nch ho (I.freeC x c e)
    exact⟨_,q,hd⟩
  · exact⟨o,keep c o (I.cne x c e) hc nch ho (I.freeC x c e),hd⟩
 refine⟨I.ok,I.os,hg,⟨fun b o e n hb hx=> ?_,fun b o e n hb hx=> ?_,fun b o e n hx=> ?_,fun b o e hx=> ?_,fun b xs e=>tups b xs (I.base.tups b xs e),fun b o xs e=>frzs b o xs (I.base.frzs b o xs e),fun b ps e=> ?_⟩, ?_,fun x c e=> ?_, ?_,fun x c e=> ?_,fun p hp=> ?_,hok,I.len⟩
 · exact keep b o (neL b o e) hb (neC b o e hx) (I.base.keep b o e n hb hx) (I.base.free b o e n hx)
 · obtain⟨sl,e1⟩:=I.base.slot b o e n hb hx
   obtain⟨sl',e2⟩:=slot b _ (neL b o e) hb (neC b o e hx) e1 (I.base.free b o e n hx)
   exact⟨sl',e2⟩
 · obtain⟨o',e1⟩:=I.base.there b o e hx
   exact free b o' (neC b o e hx) e1 (I.base.free b o e n hx)
 · obtain⟨o',e1⟩:=I.base.there b o e hx
   exact there b o' (neC b o e hx) e1
 · obtain⟨m1,e1⟩:=I.base.tbls b ps e
   obtain⟨m2,e2⟩:=tbls b _ e1
   exact⟨m1++m2,by rw[e2,Array.append_assoc]⟩
 · obtain⟨m,hn,hl⟩:=I.loc
   refine⟨m,ns m hn,fun i x v e1 e2 e3=> ?_⟩
   obtain⟨u,r,l⟩:=hl i x v e1 e2 e3
   refine⟨u,r, ?_⟩
   rcases l with l|⟨k,c,e,z⟩
   · exact .inl l
   · exact .inr ⟨k,c,e,cellK x c e _ z⟩
 · obtain⟨v,z⟩:=I.cell x c e
   exact⟨v,cellK x c e v z⟩
 · obtain⟨m,⟨o,_,_,ho,_⟩,_⟩:=I.loc
   exact free _ o (fun z=>(hch _ z).2.1 rfl) ho I.free
 · obtain⟨v,o,ho,hd⟩:=I.cell x c e
   exact free c o (fun z=>(hch c z).2.2.1 x c e rfl) ho (I.freeC x c e)
 · obtain⟨e,n,ne,nf,d⟩:=I.pin p hp
   have nch:p.1∉ch:=fun z=>(hch p.1 z).2.2.2 p hp rfl
   exact⟨keep p.1 p.2 ne nf nch e n,free p.1 p.2 nch e n,ne,nf,d⟩
theorem Inv.un{t':Nat}(I:Inv X pins σ H s)(u:Un X.fs [] H H' s.heap h')(hok:HOk X.prog X.w H' h'):Inv X pins σ H' {s with heap:=h',toks:=t'}:=by
 obtain⟨m,⟨o,es,ep,ho,r⟩,_⟩:=id I.loc
 obtain⟨sl,hL⟩:=u.any ho I.free (by simp)
 exact I.step (g':=s.gens) (d':=s.drawn) (ch:=[]) (fun _ z=>nomatch z) (fun b o _ hb _ e n=>u.keep b o e n hb (by simp)) (fun b o _ hb _ e n=>u.slot b o e n hb (by simp)) (fun b o _ e n=>u.free b o e n (by simp)) (fun b o _ e=>u.there b o e (by simp)) u.tups u.frzs u.tbls (fun m' hm=>by
  obtain⟨o',es',ep',ho',r'⟩:=hm
  rw[ho] at ho';cases ho'
  exact⟨_,es',ep',hL,r'⟩) hok I.bare
theorem Inv.call{g':Array GenState}{t':Nat}{d':Drawn}{ch:List Addr}(I:Inv X pins σ H s)(u:Un (frs X.stack) ch H H' s.heap h')(hok:HOk X.prog X.w H' h')(hg:AllBare g')
 (hch:∀b∈ch,(b∈X.ex∨X.s₀.heap.objs.size≤b)∧b≠X.env.locals∧(∀x c,X.env.cells.lookup x=some c→c≠b)∧∀p∈X.pn++pins,p.1≠b):
 Inv X pins σ H' {s with heap:=h',gens:=g',drawn:=d',toks:=t'}:=by
 obtain⟨m,⟨o,es,ep,ho,r⟩,_⟩:=id I.loc
 obtain⟨sl,hL⟩:=u.any ho I.free fun z=>(hch _ z).2.1 rfl
 exact I.step (ch:=ch) hch (fun b o hL hb hc e n=>u.keep b o e n (fun z=>(List.mem_cons.mp (I.stkSub b z)).elim hL hb) hc) (fun b o _ _ hc e n=>u.any e n hc) (fun b o hc e n=>u.free b o e n hc) (fun b o hc e=>u.there b o e hc) u.tups u.frzs u.tbls (fun m' hm=>by
  obtain⟨o',es',ep',ho',r'⟩:=hm
  rw[ho] at ho';cases ho'
  exact⟨_,es',ep',hL,r'⟩) hok hg
theorem Inv.turned{t':Nat}{it:Addr}(I:Inv X pins σ H s)(k:∀b o,b≠it→s.heap.get? b=some o→h'.get? b=some o)(hn:H it=none)(hL:it≠X.env.locals)
 (h1:it∈X.ex∨X.s₀.heap.objs.size≤it)(h2:∀x c,X.env.cells.lookup x=some c→c≠it)(h3:∀p∈X.pn++pins,p.1≠it):Inv X pins σ H {s with heap:=h',toks:=t'}:=by
 have nit:∀b u,H b=some u→b≠it:=fun b u e z=>by rw[z,hn] at e;cases e
 refine I.step (g':=s.gens) (d':=s.drawn) (ch:=[it]) (fun b hb=> ?_) (fun b o _ _ hc e _=>k b o (fun z=>hc (by simp[z])) e) (fun b o _ _ hc e _=>⟨o.slots,k b o (fun z=>hc (by simp[z])) e⟩) (fun _ _ _ _ n=>n)
  (fun b o hc e=>⟨o,k b o (fun z=>hc (by simp[z])) e⟩) (fun _ _ e=>e) (fun _ _ _ e=>e) (fun b ps e=>⟨#[],by rw[e];simp⟩) (fun m hm=> ?_) (fun b u e=> ?_) I.bare
 · have e:b=it:=by simpa using hb
   subst e
   exact⟨h1,hL,h2,h3⟩
 · obtain⟨o,es,ep,ho,r⟩:=hm
   exact⟨o,es,ep,k _ o (Ne.symm hL) ho,r⟩
 · refine(I.hok b u e).stay (fun c v hc q=>k c v ?_ q) (fun _ q=>q) fun _ _ q=>q
   rcases hc with z|z
   · rw[z];exact nit b u e
   · exact nit c _ z
theorem Inv.tok(I:Inv X pins σ H s)(t:Nat):Inv X pins σ H {s with toks:=t}:=I.un (h':=s.heap) (t':=t) Un.refl I.hok
theorem Inv.kept{t':Nat}(I:Inv X pins σ H s)(k:∀b u,s.heap.get? b=some u→h'.get? b=some u):Inv X pins σ H {s with heap:=h',toks:=t'}:=I.un (Un.kept k) (I.hok.kept k)
theorem Inv.laid{a:Addr}{o:HO}{t':Nat}(I:Inv X pins σ H s)(k:∀b u,s.heap.get? b=some u→h'.get? b=some u)(hp:s.heap.objs.size≤a)(new:ObjOk X.prog X.w (upd H a o) h' a o):
 Inv X pins σ (upd H a o) {s with heap:=h',toks:=t'}:=I.un (Un.laid k hp (I.hok.fresh hp)) (I.hok.laid k hp new)
theorem Inv.write{x e:Addr}{o:HO}{t':Nat}(I:Inv X pins σ H s)(mu:Mut (H x))(he:e=x∨H e=some (.own x))(k:∀b u,b≠e→s.heap.get? b=some u→h'.get? b=some u)(heo:∃u,h'.get? e=some u)
 (new:ObjOk X.prog X.w (upd H x o) h' x o):Inv X pins σ (upd H x o) {s with heap:=h',toks:=t'}:=I.un (Un.write mu he k heo) (I.hok.write mu he k heo new)
theorem Inv.weak{σ':List (Option V)}(I:Inv X pins σ H s)(hl:σ'.length=σ.length)(w:∀(i:Nat) v,σ'[i]? =some (some v)→σ[i]? =some (some v)):Inv X pins σ' H s:=
 ⟨I.ok,I.os,I.bare,I.base,let⟨m,hn,hl'⟩:=I.loc;⟨m,hn,fun i x v e1 e2 e3=>hl' i x v e1 (w i v e2) e3⟩,I.cell,I.free,I.freeC,I.pin,I.hok,hl.trans I.len⟩
theorem Inv.pins_of{pins':List (Addr×Obj)}(I:Inv X pins σ H s)(h:∀p∈pins',s.heap.get? p.1=some p.2∧H p.1=none∧p.1≠X.env.locals∧p.1∉X.fs∧∀v,p.2.data≠ .cell v):Inv X pins' σ H s:=
 ⟨I.ok,I.os,I.bare,I.base,I.loc,I.cell,I.free,I.freeC,fun p hp=>(List.mem_append.mp hp).elim (fun z=>I.pin p (List.mem_append_left _ z)) (h p),I.hok,I.len⟩
theorem mI{N:List Str}(hN:N.Nodup){i j:Nat}{x:Str}(a:N[i]? =some x)(b:N[j]? =some x):i=j:=by
 obtain⟨h1,e1⟩:=List.getElem?_eq_some_iff.mp a
 obtain⟨h2,e2⟩:=List.getElem?_eq_some_iff.mp b
 exact(List.getElem_inj hN).mp (e1.trans e2.symm)
theorem oX{M:Model}{A:Around}{E:Value→Shared→Prop}{i:Nat}{x:Str}{v:V}{u:Value}{Q:Unit→Shared→Prop}(I:Inv X pins σ H s)(hN:X.N.Nodup)(hi:X.N[i]? =some x)(hx:Loc X.env.scope x)(r:RelV v u)
 (h:∀s',Inv X pins (σ.set i (some v)) H s'→(∃a,Heap.SameBut a s.heap s'.heap∧(a=X.env.locals∨X.env.cells.lookup x=some a))→Q () s')(hf:X.fn x=true∨X.env.scope.names.lookup x=some .local:=by first|exact .inl rfl|exact .inr rfl|assumption):wpAny M A (storeName X.env x u) Q E s:=by
 obtain⟨m,hn,hl⟩:=id I.loc
 have hcls:(X.env.scope.kind== .class||(X.env.scope.kind== .module&&X.env.locals != X.env.globals))=false:=by rw[I.ok.kind];rfl
 have hiσ:i<σ.length:=by rw[I.len];exact(List.getElem?_eq_some_iff.mp hi).1
 have cne:=I.cne
 have tracked:∀{a:Addr} {h':Heap},(∃o,s.heap.get? a=some o∧H a=none)→Heap.SameBut a s.heap h'→HOk X.prog X.w H h':=fun {a h'} ha hs b ob e=>by
  obtain⟨_,_,hfree⟩:=ha
  refine(I.hok b ob e).stay (fun c w' hc q=>(hs.2 c ?_).trans q) (fun _ q=>q) fun _ _ q=>q
  rintro rfl
  rcases hc with rfl|hc
  · rw[hfree] at e;cases e
  · rw[hfree] at hc;cases hc
 rcases hx with hk|hk
 · refine wpAny_storeName_local hk hn (fun h' hn' hs=> ?_) hcls
   obtain⟨oL,_,_,hoL,_⟩:=id hn
   refine h _ ⟨I.ok,I.os,I.bare,⟨fun b o e n hb hx=> ?_,fun b o e n hb hx=> ?_,I.base.free,fun b o e hx=> ?_,I.base.tups,I.base.frzs,I.base.tbls⟩,⟨_,hn',fun j y v' e1 e2 e3=> ?_⟩,fun y c e=> ?_,I.free,I.freeC,fun p hp=> ?_,tracked ⟨oL,hoL,I.free⟩ hs,by simpa using I.len⟩ ⟨_,hs, .inl rfl⟩
   · exact(hs.2 b (Nat.ne_of_lt (Nat.lt_of_lt_of_le (Heap.lt_size e) I.ok.above))).trans (I.base.keep b o e n hb hx)
   · obtain⟨sl,e1⟩:=I.base.slot b o e n hb hx
     exact⟨sl,(hs.2 b (Nat.ne_of_lt (Nat.lt_of_lt_of_le (Heap.lt_size e) I.ok.above))).trans e1⟩
   · obtain⟨o',e1⟩:=I.base.there b o e hx
     exact⟨o',(hs.2 b (Nat.ne_of_lt (Nat.lt_of_lt_of_le (Heap.lt_size e) I.ok.above))).trans e1⟩
   · by_cases hj:j=i
     · subst hj
       rw[hi] at e1;cases e1
       rw[List.getElem?_set_self hiσ] at e2
       cases e2
       exact⟨u,r, .inl ⟨hk,by simp⟩⟩
     · rw[List.getElem?_set_ne (Ne.symm hj)] at e2
       obtain⟨u',r',q⟩:=hl j y v' e1 e2 e3
       refine⟨u',r', ?_⟩
       rcases q with⟨k,e⟩|⟨k,c,e,z⟩
       · refine .inl ⟨k, ?_⟩
         have:y≠x:=fun e=>hj (mI hN e1 (e▸hi))
         simp[this,e]
       · exact .inr ⟨k,c,e,z.sameBut hs (cne y c e)⟩
   · obtain⟨w',z⟩:=I.cell y c e
     exact⟨w',z.sameBut hs (cne y c e)⟩
   · obtain⟨e,n,ne,nf,d⟩:=I.pin p hp
     exact⟨(hs.2 p.1 ne).trans e,n,ne,nf,d⟩
 · have hfn:X.fn x=true:=by
    rcases hf with z|z
    · exact z
    · rw[z] at hk;cases hk
   obtain⟨c,hc⟩:=I.ok.has x (.inl hk)
   obtain⟨w',z⟩:=I.cell x c hc
   refine wpAny_storeName_cell I.ok.kind hk hc z (fun h' hc' hs=> ?_)
   obtain⟨oc,hoc,hocd⟩:=id z
   refine h {s with heap:=h'} ⟨I.ok,I.os,I.bare,⟨fun b o e n hb hx=> ?_,fun b o e n hb hx=> ?_,I.base.free,fun b o e hx=> ?_,I.base.tups,I.base.frzs,I.base.tbls⟩,⟨m,hn.sameBut hs (Ne.symm (cne x c hc)),fun j y v' e1 e2 e3=> ?_⟩,fun y c' e=> ?_,I.free,I.freeC,fun p hp=> ?_,tracked ⟨oc,hoc,I.freeC x c hc⟩ hs,by simpa using I.len⟩ ⟨c,hs, .inr hc⟩
   · exact(hs.2 b (Nat.ne_of_lt (Nat.lt_of_lt_of_le (Heap.lt_size e) (I.ok.cab x c hfn hc)))).trans (I.base.keep b o e n hb hx)
   · obtain⟨sl,e1⟩:=I.base.slot b o e n hb hx
     exact⟨sl,(hs.2 b (Nat.ne_of_lt (Nat.lt_of_lt_of_le (Heap.lt_size e) (I.ok.cab x c hfn hc)))).trans e1⟩
   · obtain⟨o',e1⟩:=I.base.there b o e hx
     exact⟨o',(hs.2 b (Nat.ne_of_lt (Nat.lt_of_lt_of_le (Heap.lt_size e) (I.ok.cab x c hfn hc)))).trans e1⟩
   · by_cases hj:j=i
     · subst hj
       rw[hi] at e1;cases e1
       rw[List.getElem?_set_self hiσ] at e2
       cases e2
       exact⟨u,r, .inr ⟨.inl hk,c,hc,hc'⟩⟩
     · rw[List.getElem?_set_ne (Ne.symm hj)] at e2
       obtain⟨u',r',q⟩:=hl j y v' e1 e2 e3
       refine⟨u',r', ?_⟩
       rcases q with q|⟨k,c',e,z'⟩
       · exact .inl q
       · refine .inr ⟨k,c',e,z'.sameBut hs ?_⟩
         rintro rfl
         exact hj (mI hN e1 (I.ok.inj _ _ _ e hc▸hi))
   · by_cases hcc:c'=c
     · subst hcc;exact⟨_,hc'⟩
     · obtain⟨w2,z2⟩:=I.cell y c' e
       exact⟨w2,z2.sameBut hs hcc⟩
   · obtain⟨e,n,ne,nf,d⟩:=I.pin p hp
     refine⟨(hs.2 p.1 ?_).trans e,n,ne,nf,d⟩
     intro q
     rw[q,hoc] at e
     have q':oc=p.2:=Option.some.inj e
     exact d w' (by rw[←q'];exact hocd)
theorem mJ{M:Model}{A:Around}{E:Value→Shared→Prop}{i:Nat}{x:Str}{v:V}{u:Value}{Q:Unit→Shared→Prop}(I:Inv X pins σ H s)(hN:X.N.Nodup)(hi:X.N[i]? =some x)(hx:Loc X.env.scope x)(r:RelV v u)
 (h:∀s',Inv X pins (σ.set i (some v)) H s'→Q () s')(hf:X.fn x=true∨X.env.scope.names.lookup x=some .local:=by first|exact .inl rfl|exact .inr rfl|assumption):wpAny M A (storeName X.env x u) Q E s:=
 oX I hN hi hx r (fun s' I' _=>h s' I') hf
theorem Inv.call'{s':Shared}{ch:List Addr}(I:Inv X pins σ H s)(ho:s'.os=s.os)(u:Un (frs X.stack) ch H H' s.heap s'.heap)(hok:HOk X.prog X.w H' s'.heap)(hg:AllBare s'.gens)
 (hch:∀b∈ch,(b∈X.ex∨X.s₀.heap.objs.size≤b)∧b≠X.env.locals∧(∀x c,X.env.cells.lookup x=some c→c≠b)∧∀p∈X.pn++pins,p.1≠b):Inv X pins σ H' s':=by
 obtain⟨h',g',d',t',o'⟩:=s'
 have e:o'=s.os:=ho
 subst e
 exact I.call (g':=g') (t':=t') (d':=d') u hok hg hch
end
abbrev XK:=Value→Option Addr→Hp→Prop
abbrev St:=List (Option V)
abbrev VK:=V→Hp→Prop
abbrev TE:=St→Hp→VK→Prop
abbrev TT:=St→Hp→(Bool→Hp→Prop)→Prop
abbrev TA:=St→Hp→(List V→Hp→Prop)→Prop
structure Ends where
 nx:St→Hp→Prop
 rt:VK
 bk:St→Hp→Prop:=fun _ _=>False
 ct:St→Hp→Prop:=fun _ _=>False
abbrev TS:=Ends→St→Hp→Prop
def EP(X:Cx)(pins:List (Addr×Obj))(σ:St)(Q:VK)(u:Value)(s':Shared):Prop:=∃v H',Inv X pins σ H' s'∧RelV v u∧Q v H'
def TP(X:Cx)(pins:List (Addr×Obj))(σ:St)(Q:Bool→Hp→Prop)(b:Bool)(s':Shared):Prop:=∃H',Inv X pins σ H' s'∧Q b H'
def AP(X:Cx)(pins:List (Addr×Obj))(σ:St)(Q:List V→Hp→Prop)(us:List Value)(s':Shared):Prop:=∃vs H',Inv X pins σ H' s'∧Vals vs us∧Q vs H'
def SP(X:Cx)(pins:List (Addr×Obj))(D:Ends)(f:Flow)(s':Shared):Prop:=
 match f with
 | .next=>∃σ' H',Inv X pins σ' H' s'∧D.nx σ' H'
 | .brk=>∃σ' H',Inv X pins σ' H' s'∧D.bk σ' H'
 | .cont=>∃σ' H',Inv X pins σ' H' s'∧D.ct σ' H'
 | .ret u=>∃v σ' H',Inv X pins σ' H' s'∧RelV v u∧D.rt v H'
def PE(X:Cx)(e:Expr)(t:TE):Prop:=
 ∀(pins:List (Addr×Obj)) (s:Shared) (σ:St) (H:Hp) (Q:VK),Inv X pins σ H s→t σ H Q→wpAny (model X.prog X.w) X.A (eval e X.env) (EP X pins σ Q) X.xe s
def PT(X:Cx)(e:Expr)(t:TT):Prop:=
 ∀(pins:List (Addr×Obj)) (s:Shared) (σ:St) (H:Hp) (Q:Bool→Hp→Prop),Inv X pins σ H s→t σ H Q→wpAny (model X.prog X.w) X.A (isTrue e X.env (eval e X.env)) (TP X pins σ Q) X.xe s
def PW(X:Cx)(e:Expr)(t:TT):Prop:=
 ∀(whole:Sem Value) (pins:List (Addr×Obj)) (s:Shared) (σ:St) (H:Hp) (Q:Bool→Hp→Prop),Inv X pins σ H s→t σ H Q→wpAny (model X.prog X.w) X.A (isTrue e X.env whole) (TP X pins σ Q) X.xe s
theorem PW.pt{X:Cx}{e:Expr}{t:TT}(h:PW X e t):PT X e t:=h _
def PA(X:Cx)(es:List Expr)(t:TA):Prop:=
 ∀(pos:Pos) (pins:List (Addr×Obj)) (s:Shared) (σ:St) (H:Hp) (Q:List V→Hp→Prop),Inv X pins σ H s→t σ H Q→wpAny (model X.prog X.w) X.A (spliced (backTo pos (starEach es X.env))) (AP X pins σ Q) X.xe s
def PS(X:Cx)(st:Stmt)(t:TS):Prop:=
 ∀(pins:List (Addr×Obj)) (s:Shared) (σ:St) (H:Hp) (D:Ends),Inv X pins σ H s→t D σ H→wpAny (model X.prog X.w) X.A (exec st X.env) (SP X pins D) X.xe s
def PSs(X:Cx)(st:List Stmt)(t:TS):Prop:=
 ∀(pins:List (Addr×Obj)) (s:Shared) (σ:St) (H:Hp) (D:Ends),Inv X pins σ H s→t D σ H→wpAny (model X.prog X.w) X.A (execs st X.env) (SP X pins D) X.xe s
theorem thn{α:Type}{t:Sem α}{Q Q':α→Shared→Prop}{M:Model}{A:Around}{E:Value→Shared→Prop}{s:Shared}(h:wpAny M A t Q E s)(hQ:∀a s,Q a s→Q' a s):wpAny M A t Q' E s:=wpAny_mono h hQ fun _ _ x=>x
end L2
namespace L2
open PySem PySem.Spec PyProof.Rows
section
variable{X:Cx}
def iX(i:Nat):TE:=fun σ H Q=>∃v,σ[i]? =some (some v)∧Q v H
def tC(v:V):TE:=fun _ H Q=>Q v H
theorem Bg{i:Nat}{x:Str}{pos:Pos}(hN:X.N[i]? =some x)(hv:Vis X.env.scope x)(hd:(x==("__debug__":Str))=false:=by decide)(hcd:(x==("__classdict__":Str))=false:=by decide):PE X (.Name x pos) (iX i):=by
 intro pins s σ H Q I h
 obtain⟨v,e,h⟩:=h
 obtain⟨m,hn,hl⟩:=I.loc
 obtain⟨u,r,l⟩:=hl i x v hN e hv
 have fin:EP X pins σ Q u s:=⟨v,H,I,r,h⟩
 rcases l with⟨hk,hm⟩|⟨hk,c,hc,hcell⟩
 · exact wpAny_Name (wpAny_loadName_local I.ok.kind hk hn hm fin) hd
 · rcases hk with hk|hk
   · exact wpAny_Name (wpAny_loadName_cell I.ok.kind hk hc hcell fin) hd
   · exact wpAny_Name (wpAny_loadName_free I.ok.kind hk hc hcell fin hcd) hd
theorem aj{i j pos}:PE X (.Constant (.int i) j pos) (tC (.int i)):=fun _ _ _ H _ I h=>wpAny_Constant_int ⟨.int i,H,I.tok _,⟨_,rfl⟩,h⟩
theorem lY{b j pos}:PE X (.Constant (.bool b) j pos) (tC (.bl b)):=fun _ _ _ H _ I h=>Constant_bool ⟨.bl b,H,I,rfl,h⟩
theorem dU{j pos}:PE X (.Constant .none j pos) (tC .non):=fun _ _ _ H _ I h=>Constant_none ⟨.non,H,I,rfl,h⟩
theorem ax{x j pos}:PE X (.Constant (.str x) j pos) (tC (.str x)):=fun _ _ _ H _ I h=>Calls.Constant_str ⟨.str x,H,I.tok _,⟨_,rfl⟩,h⟩
def Gl(X:Cx)(x:Str):Prop:=X.env.kindOf x=some .globalImplicit
theorem jW{E:Value→Shared→Prop}{pins:List (Addr×Obj)}{s:Shared}{σ:St}{H:Hp}{x:Str}{u:Value}{pos:Pos}{Q:Value→Shared→Prop}(I:Inv X pins σ H s)(hg:Gl X x)(hm:X.mg x=some u)(h:Q u s)
 (hd:(x==("__debug__":Str))=false:=by decide):wpAny (model X.prog X.w) X.A (eval (.Name x pos) X.env) Q E s:=
 Calls.Name_function_global I.ok.kind hg (Calls.loadGlobal_global (by rw[I.ok.glob];exact I.mod.glob.keeps I.bk) hm h) hd
theorem kn{E:Value→Shared→Prop}{pins:List (Addr×Obj)}{s:Shared}{σ:St}{H:Hp}{x:Str}{u:Value}{pos:Pos}{Q:Value→Shared→Prop}(I:Inv X pins σ H s)(hg:Gl X x)(hm:X.mg x=none)(hv:bootBuiltins x=some u)(h:Q u s)
 (hn:x≠"__name__":=by decide)(hd:(x==("__debug__":Str))=false:=by decide):wpAny (model X.prog X.w) X.A (eval (.Name x pos) X.env) Q E s:=by
 obtain⟨mb,h1,h2⟩:=I.mod.blt
 exact Calls.Name_function_global I.ok.kind hg (Calls.loadGlobal_builtin (by rw[I.ok.glob];exact I.mod.glob.keeps I.bk) hm (by rw[I.ok.blt];exact h1.keeps I.bk) ((h2 x hn).trans hv) h) hd
theorem tS{x:Str}{v:V}{u:Value}{pos:Pos}(hg:Gl X x)(hm:X.mg x=some u)(r:RelV v u)(hd:(x==("__debug__":Str))=false:=by decide):PE X (.Name x pos) (tC v):=
 fun _ _ _ H _ I h=>jW I hg hm ⟨v,H,I,r,h⟩ hd
theorem pO{x:Str}{v:V}{u:Value}{pos:Pos}(hg:Gl X x)(hm:X.mg x=none)(hv:bootBuiltins x=some u)(r:RelV v u)(hn:x≠"__name__":=by decide)(hd:(x==("__debug__":Str))=false:=by decide):PE X (.Name x pos) (tC v):=
 fun _ _ _ H _ I h=>kn I hg hm hv ⟨v,H,I,r,h⟩ hn hd
variable{a b:Expr}{ta tb:TE}{pos:Pos}
def tB(t:TE):TT:=fun σ H Q=>t σ H fun x H1=>∃c,x= .bl c∧Q c H1
theorem e7{e:Expr}{t:TE}(h:PE X e t)(he:∀whole,isTrue e X.env whole=(do let v ←whole;standAt e.pos;holding [v] (truthy v)):=by intro _;rfl):PT X e (tB t):=by
 intro pins s σ H Q I hw
 refine isTrue_plain (thn (h pins s σ H _ I hw) fun v s1 ⟨x,H1,I1,r1,q1⟩=> ?_) (he _)
 obtain⟨d,rfl,q⟩:=q1
 cases r1
 exact wpAny_truthy_bool ⟨H1,I1,q⟩
variable{tA tB':TT}{rest:List Expr}
def CU(t u:TT):TT:=fun σ H Q=>t σ H fun c H1=>if c=true then u σ H1 Q else Q false H1
def tOr(t u:TT):TT:=fun σ H Q=>t σ H fun c H1=>if c=true then Q true H1 else u σ H1 Q
def vP(t:TT):TT:=fun σ H Q=>t σ H fun c H1=>Q (!c) H1
theorem kF(ha:PT X a tA):PW X (.BoolOp .And [a] pos) tA:=by
 intro wh pins s σ H Q I h
 refine isTrue_and (thn (ha pins s σ H Q I h) fun c s1 e=> ?_)
 cases c with
 |true=>exact isTrue_and_nil e
 |false=>exact e
theorem ig(ha:PT X a tA):PW X (.BoolOp .Or [a] pos) tA:=by
 intro wh pins s σ H Q I h
 refine isTrue_or (thn (ha pins s σ H Q I h) fun c s1 e=> ?_)
 cases c with
 |false=>exact isTrue_or_nil e
 |true=>exact e
theorem mK(ha:PT X a tA)(hb:PW X (.BoolOp .And (b::rest) pos) tB'):PW X (.BoolOp .And (a::b::rest) pos) (CU tA tB'):=by
 intro wh pins s σ H Q I h
 refine isTrue_and (thn (ha pins s σ H _ I h) fun c s1 ⟨H1,I1,q1⟩=> ?_)
 cases c with
 |true=>exact hb wh pins s1 σ H1 Q I1 q1
 |false=>exact⟨H1,I1,q1⟩
theorem ij(ha:PT X a tA)(hb:PW X (.BoolOp .Or (b::rest) pos) tB'):PW X (.BoolOp .Or (a::b::rest) pos) (tOr tA tB'):=by
 intro wh pins s σ H Q I h
 refine isTrue_or (thn (ha pins s σ H _ I h) fun c s1 ⟨H1,I1,q1⟩=> ?_)
 cases c with
 |true=>exact⟨H1,I1,q1⟩
 |false=>exact hb wh pins s1 σ H1 Q I1 q1
theorem gM(ha:PT X a tA):PT X (.UnaryOp .Not a pos) (vP tA):=by
 intro pins s σ H Q I h
 exact isTrue_not (ha pins s σ H (fun c H1=>Q (!c) H1) I h)
def Ax(ta tb:TE):TE:=fun σ H Q=>ta σ H fun x H1=>∃c,x= .bl c∧if c=true then tb σ H1 Q else Q (.bl false) H1
def Ay(ta:TE):TE:=fun σ H Q=>ta σ H fun x H1=>∃c,x= .bl c∧Q (.bl (!c)) H1
theorem vQ{op}{t:TE}(h:PE X a t):PE X (.BoolOp op [a] pos) t:=fun pins s σ H Q I hw=>BoolOp_one (h pins s σ H Q I hw)
theorem vR(ha:PE X a ta)(hb:PE X (.BoolOp .And (b::rest) pos) tb):PE X (.BoolOp .And (a::b::rest) pos) (Ax ta tb):=by
 intro pins s σ H Q I h
 refine BoolOp_and (thn (ha pins s σ H _ I h) fun v s1 ⟨x,H1,I1,r1,q1⟩=> ?_)
 obtain⟨c,rfl,q1⟩:=q1
 cases r1
 refine wpAny_truthy_bool ?_
 cases c with
 |true=>exact hb pins s1 σ H1 Q I1 q1
 |false=>exact⟨.bl false,H1,I1,rfl,q1⟩
theorem Bh(ha:PE X a ta):PE X (.UnaryOp .Not a pos) (Ay ta):=by
 intro pins s σ H Q I h
 refine UnaryOp_ (thn (ha pins s σ H _ I h) fun v s1 ⟨x,H1,I1,r1,q1⟩=> ?_)
 obtain⟨c,rfl,q1⟩:=q1
 cases r1
 exact not_of (wpAny_truthy_bool ⟨.bl (!c),H1,I1,rfl,q1⟩)
end
def SqL(K:W.Frag)(H:Hp)(a:Addr)(xs:List V):Prop:=
 Rd H a (.lst xs)∨
  ∃(o:Obj) (its:Array Value) (n:Nat),K.lookup a=some o∧o.cls= .type "list"∧o.dict=none∧o.data= .seq its n∧its.size≤sizeLine∧Vals xs its.toList
def SqT(K:W.Frag)(H:Hp)(a:Addr)(xs:List V):Prop:=
 Rd H a (.tup xs)∨
  ∃(o:Obj) (its:Array Value) (n:Nat),K.lookup a=some o∧o.cls= .type "tuple"∧o.data= .seq its n∧its.size≤sizeLine∧Vals xs its.toList
def Eb:Value→Option V
 | .none=>some .non
 | .bool b=>some (.bl b)
 | .int i _=>some (.int i)
 | .str x _=>some (.str x)
 | .bytes b _=>some (.byt b)
 | .float b _=>some (.flt b)
 | .ref a=>some (.ref a)
 | .type n=>some (.ty n)
 |_=>none
theorem RelV.abs{x:V}{u:Value}(r:RelV x u):Eb u=some x:=by
 cases x with
 |non=>cases r;rfl
 |bl _=>cases r;rfl
 |int _=>obtain⟨t,rfl⟩:=r;rfl
 |str _=>obtain⟨t,rfl⟩:=r;rfl
 |byt _=>obtain⟨t,rfl⟩:=r;rfl
 |flt _=>obtain⟨t,rfl⟩:=r;rfl
 |ref _=>cases r;rfl
 |ty _=>cases r;rfl
theorem RelV.inj{x y:V}{u:Value}(r:RelV x u)(q:RelV y u):x=y:=Option.some.inj (r.abs.symm.trans q.abs)
theorem Vals.inj:∀{xs ys:List V} {us:List Value},Vals xs us→Vals ys us→xs=ys
 |_,_,_, .nil, .nil=>rfl
 |_,_,_, .cons r t, .cons r' t'=>by rw[r.inj r',Vals.inj t t']
section
variable{X:Cx}{pins:List (Addr×Obj)}{σ:St}{H:Hp}{s:Shared}{a:Addr}{xs ys:List V}
theorem SqL.of{K:W.Frag}(h:H a=some (.lst xs)):SqL K H a xs:= .inl (.inl h)
theorem SqT.of{K:W.Frag}(h:H a=some (.tup xs)):SqT K H a xs:= .inl (.inl h)
theorem Inv.list(I:Inv X pins σ H s)(h:SqL X.K H a xs):∃its:List Value,Vals xs its∧PlainL s.heap a its.toArray∧xs.length≤sizeLine:=by
 rcases h with h|⟨o,its,n,hk,hc,hd,hs,hz,r⟩
 · obtain⟨z,its,n,r,e⟩:=h.ok I.hok
   exact⟨its,r,⟨_,n,e,rfl,rfl,rfl⟩,z⟩
 · refine⟨its.toList,r,⟨o,n,I.kIn a o hk,hc,hd,by simpa using hs⟩, ?_⟩
   have e:=r.length
   simp only[Array.length_toList] at e
   omega
theorem Inv.tuple(I:Inv X pins σ H s)(h:SqT X.K H a xs):∃its:List Value,Vals xs its∧IsTup s.heap a its.toArray∧xs.length≤sizeLine:=by
 rcases h with h|⟨o,its,n,hk,hc,hs,hz,r⟩
 · obtain⟨z,its,r,p⟩:=h.ok I.hok
   exact⟨its,r,p,z⟩
 · refine⟨its.toList,r,⟨o,I.kIn a o hk,hc,n,by simpa using hs⟩, ?_⟩
   have e:=r.length
   simp only[Array.length_toList] at e
   omega
theorem Inv.list_inj(I:Inv X pins σ H s)(h:SqL X.K H a xs)(h':SqL X.K H a ys):xs=ys:=by
 obtain⟨its,r,⟨o,n,e,_,_,d⟩,_⟩:=I.list h
 obtain⟨its',r',⟨o',n',e',_,_,d'⟩,_⟩:=I.list h'
 rw[e] at e';cases e'
 rw[d] at d'
 injection d' with d1 _
 have:its=its':=by simpa using congrArg Array.toList d1
 subst this
 exact r.inj r'
theorem Inv.tuple_inj(I:Inv X pins σ H s)(h:SqT X.K H a xs)(h':SqT X.K H a ys):xs=ys:=by
 obtain⟨its,r,⟨o,e,_,n,d⟩,_⟩:=I.tuple h
 obtain⟨its',r',⟨o',e',_,n',d'⟩,_⟩:=I.tuple h'
 rw[e] at e';cases e'
 rw[d] at d'
 injection d' with d1 _
 have:its=its':=by simpa using congrArg Array.toList d1
 subst this
 exact r.inj r'
end
abbrev Cx.wish(X:Cx)(E:Value→Shared→Prop):Cx:={X with xe:=E}
abbrev Cx.nox(X:Cx):Cx:=X.wish fun _ _=>False
theorem Cx.Ok.wish{X:Cx}(ok:X.Ok)(E:Value→Shared→Prop):(X.wish E).Ok:=
 ⟨ok.mod,ok.kind,ok.glob,ok.blt,ok.above,ok.inj,ok.has,ok.cab,ok.hd,ok.frames,ok.stk,ok.exf,ok.bs,ok.bsz,ok.noex,ok.exfs,ok.funs,ok.frf⟩
theorem Cx.Ok.unwish{X:Cx}{E:Value→Shared→Prop}(ok:(X.wish E).Ok):X.Ok:=
 ⟨ok.mod,ok.kind,ok.glob,ok.blt,ok.above,ok.inj,ok.has,ok.cab,ok.hd,ok.frames,ok.stk,ok.exf,ok.bs,ok.bsz,ok.noex,ok.exfs,ok.funs,ok.frf⟩
section
variable{X:Cx}{pins:List (Addr×Obj)}{σ:St}{H:Hp}{s:Shared}{E:Value→Shared→Prop}
theorem Inv.wish(I:Inv X pins σ H s)(E:Value→Shared→Prop):Inv (X.wish E) pins σ H s:=⟨I.ok.wish E,I.os,I.bare,I.base,I.loc,I.cell,I.free,I.freeC,I.pin,I.hok,I.len⟩
theorem Inv.unwish(I:Inv (X.wish E) pins σ H s):Inv X pins σ H s:=⟨I.ok.unwish,I.os,I.bare,I.base,I.loc,I.cell,I.free,I.freeC,I.pin,I.hok,I.len⟩
theorem SP.unwish{D:Ends}{f:Flow}{s':Shared}(h:SP (X.wish E) pins D f s'):SP X pins D f s':=by
 cases f with
 |next=>obtain⟨σ',H',I,q⟩:=h;exact⟨σ',H',I.unwish,q⟩
 |brk=>obtain⟨σ',H',I,q⟩:=h;exact⟨σ',H',I.unwish,q⟩
 |cont=>obtain⟨σ',H',I,q⟩:=h;exact⟨σ',H',I.unwish,q⟩
 |ret u=>obtain⟨v,σ',H',I,r,q⟩:=h;exact⟨v,σ',H',I.unwish,r,q⟩
theorem PSs.nox{st:List Stmt}{t:TS}(h:PSs X.nox st t):PSs X st t:=fun pins s σ H D I hw=>
 wpAny_mono (h pins s σ H D (I.wish _) hw) (fun _ _ q=>q.unwish) fun _ _ z=>False.elim z
end
section
variable{X:Cx}{st:Stmt}{rest:List Stmt}{t u:TS}{e:Expr}{te:TE}{pos:Pos}
def tT:TS:=fun D σ H=>D.nx σ H
def oG(t u:TS):TS:=fun D σ H=>t {D with nx:=u D} σ H
theorem aM:PSs X [] tT:=fun _ _ σ H _ I h=>wpAny_execs_nil ⟨σ,H,I,h⟩
theorem al(h1:PS X st t)(h2:PSs X rest u):PSs X (st::rest) (oG t u):=by
 intro pins s σ H D I h
 refine wpAny_execs_cons (thn (h1 pins s σ H {D with nx:=u D} I h) fun f s1 q=> ?_)
 cases f with
 |next=>
  obtain⟨σ',H',I',q⟩:=q
  exact h2 pins s1 σ' H' D I' q
 |ret v=>exact q
 |brk=>exact q
 |cont=>exact q
theorem av(h1:PS X st t):PSs X [st] t:=by
 intro pins s σ H D I h
 refine wpAny_execs_cons (thn (h1 pins s σ H D I h) fun f s1 q=> ?_)
 cases f with
 |next=>exact wpAny_execs_nil q
 |ret v=>exact q
 |brk=>exact q
 |cont=>exact q
theorem Inv.quiet{pins:List (Addr×Obj)}{σ:St}{H:Hp}{s:Shared}(I:Inv X pins σ H s):interactive X.env=false:=by simp[interactive,I.ok.kind]
def re(te:TE):TS:=fun D σ H=>te σ H fun _ H1=>D.nx σ H1
theorem fN(he:PE X e te)(hs:swapsWith e none pos.line X.env=pure false:=by rfl):PS X (.Expr e pos) (re te):=by
 intro pins s σ H D I h
 exact wpAny_Expr_any (thn (he pins s σ H _ I h) fun v s1 ⟨x,H1,I1,r1,q1⟩=>⟨σ,H1,I1,q1⟩) I.quiet hs
def sr(te:TE):TS:=fun D σ H=>te σ H D.rt
theorem aL(he:PE X e te):PS X (.Return (some e) pos) (sr te):=by
 intro pins s σ H D I h
 exact wpAny_Return_some (thn (he pins s σ H _ I h) fun v s1 ⟨x,H1,I1,r1,q1⟩=>⟨x,σ,H1,I1,r1,q1⟩)
def vS(c:TT)(t u:TS):TS:=fun D σ H=>c σ H fun b H1=>if b=true then t D σ H1 else u D σ H1
theorem br{c:Expr}{a b:List Stmt}{tc:TT}(hc:PT X c tc)(ha:PSs X a t)(hb:PSs X b u):PS X (.If c a b pos) (vS tc t u):=by
 intro pins s σ H D I h
 refine wpAny_If (thn (hc pins s σ H _ I h) fun d s1 ⟨H1,I1,q1⟩=> ?_)
 cases d with
 |true=>exact ha pins s1 σ H1 D I1 q1
 |false=>exact hb pins s1 σ H1 D I1 q1
end
abbrev TG:=V→St→Hp→(St→Hp→Prop)→Prop
abbrev TGs:=List V→St→Hp→(St→Hp→Prop)→Prop
def PG(X:Cx)(target:Expr)(t:TG):Prop:=
 ∀(pins:List (Addr×Obj)) (s:Shared) (σ:St) (H:Hp) (v:V) (u:Value) (Q:St→Hp→Prop),Inv X pins σ H s→RelV v u→t v σ H Q→
  wpAny (model X.prog X.w) X.A (assign target X.env u) (fun _ s'=>∃σ' H',Inv X pins σ' H' s'∧Q σ' H') X.xe s
def PGs(X:Cx)(ts:List Expr)(t:TGs):Prop:=
 ∀(pins:List (Addr×Obj)) (s:Shared) (σ:St) (H:Hp) (vs:List V) (us:List Value) (Q:St→Hp→Prop),Inv X pins σ H s→Vals vs us→t vs σ H Q→
  wpAny (model X.prog X.w) X.A (assignInOrder ((assignEach ts X.env).map (·.2)) us) (fun _ s'=>∃σ' H',Inv X pins σ' H' s'∧Q σ' H') X.xe s
section
variable{X:Cx}{pos:Pos}
def iD(i:Nat):TG:=fun v σ H Q=>Q (σ.set i (some v)) H
theorem dC{i:Nat}{x:Str}(hN:X.N.Nodup)(hi:X.N[i]? =some x)(hx:Loc X.env.scope x)(hf:X.fn x=true∨X.env.scope.names.lookup x=some .local:=by first|exact .inl rfl|exact .inr rfl|assumption):PG X (.Name x pos) (iD i):=by
 intro pins s σ H v u Q I r h
 exact wpAny_assign_Name (mJ I hN hi hx r (fun s' I'=>⟨_,H,I',h⟩) hf)
def Bi:TGs:=fun vs σ H Q=>vs=[]∧Q σ H
def vT(t:TG)(u:TGs):TGs:=fun vs σ H Q=>∃v r,vs=v::r∧t v σ H fun σ' H'=>u r σ' H' Q
theorem mw:PGs X [] Bi:=by
 intro pins s σ H vs us Q I r h
 obtain⟨e,h⟩:=h
 subst e
 cases r
 exact assignInOrder_nil ⟨σ,H,I,h⟩
theorem eV{e:Expr}{es:List Expr}{t:TG}{u:TGs}(h1:PG X e t)(h2:PGs X es u)
 (hs:(assignEach (e::es) X.env).map (·.2)=assign e X.env::(assignEach es X.env).map (·.2):=by rfl):PGs X (e::es) (vT t u):=by
 intro pins s σ H vs us Q I r h
 obtain⟨v,vr,e1,h⟩:=h
 subst e1
 cases r with
 |cons r rr=>
  rw[hs]
  refine assignInOrder_cons (thn (h1 pins s σ H _ _ _ I r h) fun _ s1 ⟨σ1,H1,I1,q1⟩=> ?_)
  exact h2 pins s1 σ1 H1 _ _ Q I1 rr q1
def yX(K:W.Frag)(n:Nat)(t:TGs):TG:=fun v σ H Q=>∃a xs,v= .ref a∧SqT K H a xs∧xs.length=n∧t xs σ H Q
theorem pP{es:List Expr}{k:Nat}{t:TGs}{n:Nat}(hc:X.calm=true)(h:PGs X es t)
 (hn:(assignEach es X.env).length=n:=by rfl)(hst:(assignEach es X.env).findIdx? (·.1)=none:=by rfl):PG X (.Tuple es k pos) (yX X.K n t):=by
 intro pins s σ H v u Q I r hw
 obtain⟨a,xs,e1,hq,hl,hw⟩:=hw
 subst e1
 cases r
 obtain⟨its,rv,ht,hz⟩:=I.tuple hq
 refine assign_Tuple_tuple (I.ok.hd hc) ht (by simp[hn,←hl,rv.length]) hst fun h' hx=> ?_
 have I1:Inv X pins σ H {s with heap:=h'}:=I.kept (t':=s.toks) fun b o e=>hx b o (Nat.ne_of_lt (Heap.lt_size e)) e
 exact h pins _ σ H xs _ Q I1 (by simpa using rv) hw
def mL(te:TE)(g:TG):TS:=fun D σ H=>te σ H fun x H1=>g x σ H1 D.nx
theorem vU{tg e:Expr}{te:TE}{g:TG}(he:PE X e te)(hg:PG X tg g)(hs:swapsWithSole [tg] e pos.line X.env=pure false:=by rfl)(hw:swappedStores [tg] e X.env=pure none:=by rfl)
 (h1:(assignEach [tg] X.env).map (·.2)=[assign tg X.env]:=by rfl):PS X (.Assign [tg] e pos) (mL te g):=by
 intro pins s σ H D I h
 refine wpAny_Assign_stores (thn (he pins s σ H _ I h) fun v s1 ⟨x,H1,I1,r1,q1⟩=> ?_) hs hw
 rw[h1]
 exact thn (hg pins s1 σ H1 x v _ I1 r1 q1) fun _ s2 q=>q
theorem aC{i:Nat}{x:Str}{e:Expr}{te:TE}{pos':Pos}(hN:X.N.Nodup)(hi:X.N[i]? =some x)(hx:Loc X.env.scope x)(he:PE X e te)(hs:swapsWith e (some (.Name x pos')) pos.line X.env=pure false:=by rfl)(hf:X.fn x=true∨X.env.scope.names.lookup x=some .local:=by first|exact .inl rfl|exact .inr rfl|assumption):
 PS X (.Assign [.Name x pos'] e pos) (mL te (iD i)):=by
 intro pins s σ H D I h
 refine wpAny_Assign_Name (thn (he pins s σ H _ I h) fun v s1 ⟨y,H1,I1,r1,q1⟩=> ?_) hs
 exact mJ I1 hN hi hx r1 (fun s2 I2=>⟨_,H1,I2,q1⟩) hf
end
section
variable{X:Cx}{pos:Pos}
def ss(c:TT)(tb:TS):TS:=fun D σ H=>∃W:Nat→St→Hp→Prop,(∃m,W m σ H)∧∀m σ H,W m σ H→
 c σ H fun b H1=>if b=true then ∃N:St→Hp→Prop,(∀σ' H',N σ' H'→∃m',m'<m∧W m' σ' H')∧tb {D with nx:=N,ct:=N,bk:=D.nx} σ H1 else D.nx σ H1
theorem jB{c:Expr}{body:List Stmt}{tc:TT}{tb:TS}(hp:PassesOwn (model X.prog X.w) X.A X.env X.xe)(hc:PT X c tc)(hb:PSs X body tb):PS X (.While c body [] pos) (ss tc tb):=by
 intro pins s σ H D I h
 obtain⟨W,⟨m0,w0⟩,turn⟩:=h
 refine wpAny_While (codeAny_whileLoop (fun n s'=>∃σ' H',Inv X pins σ' H' s'∧W n σ' H') ?_ m0 ⟨σ,H,I,w0⟩)
 rintro n s1 ⟨σ1,H1,I1,w1⟩
 refine wpAny_passesOwn hp (thn (hc pins s1 σ1 H1 _ I1 (turn n σ1 H1 w1)) fun b s2 ⟨H2,I2,q2⟩=> ?_)
 cases b with
 |true=>
  obtain⟨N,hN,q2⟩:=q2
  rw[if_pos rfl]
  refine wpAny_passesOwn hp (thn (hb pins s2 σ1 H2 _ I2 q2) fun f s3 q3=> ?_)
  cases f with
  |next=>
   obtain⟨σ3,H3,I3,n3⟩:=q3
   obtain⟨m',hm,w3⟩:=hN σ3 H3 n3
   exact⟨m',hm,σ3,H3,I3,w3⟩
  |cont=>
   obtain⟨σ3,H3,I3,n3⟩:=q3
   obtain⟨m',hm,w3⟩:=hN σ3 H3 n3
   exact⟨m',hm,σ3,H3,I3,w3⟩
  |brk=>exact q3
  |ret v=>exact q3
 |false=>
  rw[if_neg Bool.false_ne_true]
  exact wpAny_execs_nil ⟨σ1,H2,I2,q2⟩
end
structure It where
 go:Nat→Hp→Prop
 yld:Nat→Hp→V→Hp→Prop
 stop:Nat→Hp→Prop
def j5(X:Cx)(pins:List (Addr×Obj))(H:Hp)(b:Addr):Prop:=
 H b=none∧b≠X.env.locals∧b∉X.fs∧(b∈X.ex∨X.s₀.heap.objs.size≤b)∧(∀x c,X.env.cells.lookup x=some c→c≠b)∧∀p∈X.pn++pins,p.1≠b
theorem Inv.fpOk{X:Cx}{pins:List (Addr×Obj)}{σ:St}{H H':Hp}{s:Shared}{b:Addr}(I:Inv X pins σ H s)(hb:s.heap.objs.size≤b)(hn:H' b=none):j5 X pins H' b:=by
 refine⟨hn,Nat.ne_of_gt (Nat.lt_of_lt_of_le I.lt hb),I.nofs hb, .inr (Nat.le_trans I.sz hb),fun x c e z=> ?_,fun p hp z=> ?_⟩
 · obtain⟨v,q⟩:=I.cell x c e
   exact absurd (Nat.lt_of_lt_of_le q.lt (by rw[z];exact hb)) (Nat.lt_irrefl _)
 · exact absurd (Nat.lt_of_lt_of_le (Heap.lt_size (I.pin p hp).1) (by rw[z];exact hb)) (Nat.lt_irrefl _)
structure Turn(P:Program)(w:World)(K:W.Frag)(tg:Expr)(J:It)(fp:List Addr)(it:Addr)(tn:Nat→Heap→Prop):Prop where
 mem:it∈fp
 obj:∀i h,tn i h→∀b∈fp,∃o,h.get? b=some o∧∀v,o.data≠ .cell v
 keep:∀i h h',tn i h→(∀b∈fp,∀o,h.get? b=some o→h'.get? b=some o)→tn i h'
 item:∀(X:Cx),X.prog=P→X.w=w→X.K=K→X.calm=true→∀(i:Nat) (pins:List (Addr×Obj)) (s:Shared) (σ:St) (H:Hp) (E:Value→Shared→Prop),Inv X pins σ H s→(∀b∈fp,j5 X pins H b)→tn i s.heap→J.go i H→
  wpAny (model P w) X.A (pyNext (.ref it)) (fun r s1=>∃u,r=some u∧
   wpAny (model P w) X.A (letOwnedTupleGo tg (.ref it) u) (fun _ s2=>∃x H',Inv X pins σ H' s2∧RelV x u∧J.yld i H x H'∧tn (i+1) s2.heap∧∀b∈fp,H' b=none) E s1) E s
 done:∀(X:Cx),X.prog=P→X.w=w→X.K=K→X.calm=true→∀(i:Nat) (pins:List (Addr×Obj)) (s:Shared) (σ:St) (H:Hp) (E:Value→Shared→Prop),Inv X pins σ H s→(∀b∈fp,j5 X pins H b)→tn i s.heap→J.stop i H→
  wpAny (model P w) X.A (pyNext (.ref it)) (fun r s1=>r=none∧Inv X pins σ H s1) E s
 self:∀(A:Around) (i:Nat) (s:Shared) (Q:Value→Shared→Prop) (E:Value→Shared→Prop),tn i s.heap→Q (.ref it) s→wpAny (model P w) A (pyIter (.ref it)) Q E s
abbrev TI:=St→Hp→(It→Hp→Prop)→Prop
def PIE(X:Cx)(pins:List (Addr×Obj))(σ:St)(tg:Expr)(R:It→Hp→Prop)(itv:Value)(s2:Shared):Prop:=
 ∃(it:Addr) (fp:List Addr) (tn:Nat→Heap→Prop) (J:It) (H':Hp),itv= .ref it∧Inv X pins σ H' s2∧Turn X.prog X.w X.K tg J fp it tn∧tn 0 s2.heap∧(∀b∈fp,j5 X pins H' b)∧R J H'
def PI(X:Cx)(tg iter:Expr)(wi:TI):Prop:=
 ∀(pins:List (Addr×Obj)) (s:Shared) (σ:St) (H:Hp) (R:It→Hp→Prop),Inv X pins σ H s→wi σ H R→
  wpAny (model X.prog X.w) X.A (eval iter X.env) (fun v s1=>wpAny (model X.prog X.w) X.A (pyIter v) (PIE X pins σ tg R) X.xe s1) X.xe s
theorem tU{M:Model}{A:Around}{E:Value→Shared→Prop}{s:Shared}{tg:Expr}{it:Addr}{u:Value}{o:Obj}{n:String}{vs:Array Value}{Q:Unit→Shared→Prop}(ho:s.heap.get? it=some o)(hc:o.cls= .type n)(hd:o.data= .fields vs)
 (hn:["enumerate","zip","dict_itemiterator","dict_reverseitemiterator","odict_iterator","itertools.zip_longest","itertools.pairwise"].contains n=false)(hQ:Q () s):wpAny M A (letOwnedTupleGo tg (.ref it) u) Q E s:=by
 unfold letOwnedTupleGo
 cases tg<;>first
  |exact wpAny_pure hQ
  |(cases u<;>first
   |exact wpAny_pure hQ
   |(refine wpAny_bind (wpAny_load ho ?_)
     rw[hc,hd]
     show wpAny M A (if(["enumerate","zip","dict_itemiterator","dict_reverseitemiterator","odict_iterator","itertools.zip_longest","itertools.pairwise"].contains n&&vs[0]? ==some (rawInt _))=true then _ else _) Q E s
     rw[if_neg (by intro h;rw[hn,Bool.false_and] at h;cases h)]
     exact wpAny_pure hQ))
def Itl(K:W.Frag)(a:Addr):It:=
 ⟨fun i H=>∃xs x,SqL K H a xs∧xs[i]? =some x,fun i H x H'=>H'=H∧∀xs,SqL K H a xs→xs[i]? =some x,fun i H=>∃xs,SqL K H a xs∧xs.length≤i⟩
def Itt(K:W.Frag)(a:Addr):It:=
 ⟨fun i H=>∃xs x,SqT K H a xs∧xs[i]? =some x,fun i H x H'=>H'=H∧∀xs,SqT K H a xs→xs[i]? =some x,fun i H=>∃xs,SqT K H a xs∧xs.length≤i⟩
def Itr(lo:Int)(n:Nat):It:=⟨fun i _=>i<n,fun i H x H'=>H'=H∧x= .int (lo+i),fun i _=>n≤i⟩
theorem va{P:Program}{w:World}{K:W.Frag}{tg:Expr}(a it:Addr):Turn P w K tg (Itl K a) [it] it (fun i h=>h.IsListIter it a i) where
 mem:=by simp
 obj:=fun i h st b hb=>by
  have e:b=it:=by simpa using hb
  subst e
  obtain⟨o,e,c,d⟩:=st
  exact⟨o,e,fun v z=>by rw[d] at z;cases z⟩
 keep:=fun i h h' st k=>st.at fun o e=>k it (by simp) o e
 item:=by
  intro X hP hw hK hc i pins s σ H E I hf st hg
  subst hP hw hK
  obtain⟨xs,x,hq,hx⟩:=hg
  obtain⟨its,rv,p,hz⟩:=I.list hq
  obtain⟨u,hu,ru⟩:=rv.get hx
  obtain⟨f0,f1,f2,f3,f4,f5⟩:=hf it (by simp)
  refine wpAny_pyNext_list_item st p.isList (x:=u) (by simpa using hu) fun h' st' sb=> ?_
  have I1:Inv X pins σ H {s with heap:=h'}:=I.turned (t':=s.toks) (fun b o hb e=>(sb.2 b hb).trans e) f0 f1 f3 f4 f5
  obtain⟨o,e,c,d⟩:=id st'
  exact⟨u,rfl,tU (s:={s with heap:=h'}) e c d (by decide) ⟨x,H,I1,ru,⟨rfl,fun ys hy=>by rw[I.list_inj hy hq];exact hx⟩,st',fun b hb=>(hf b hb).1⟩⟩
 done:=by
  intro X hP hw hK hc i pins s σ H E I hf st hg
  subst hP hw hK
  obtain⟨xs,hq,hx⟩:=hg
  obtain⟨its,rv,p,hz⟩:=I.list hq
  obtain⟨f0,f1,f2,f3,f4,f5⟩:=hf it (by simp)
  have hl:=rv.length
  exact wpAny_pyNext_list_end (I.ok.hd hc) st p.isList (by simp;omega) fun h' eb=>⟨rfl,I.turned (t':=s.toks) (fun b o hb e=>eb b o hb e) f0 f1 f3 f4 f5⟩
 self:=fun _ _ _ _ _ st h=>wpAny_pyIter_listiter st h
theorem su{P:Program}{w:World}{K:W.Frag}{tg:Expr}(a it:Addr):Turn P w K tg (Itt K a) [it] it (fun i h=>h.IsTupleIter it a i) where
 mem:=by simp
 obj:=fun i h st b hb=>by
  have e:b=it:=by simpa using hb
  subst e
  obtain⟨o,e,c,d⟩:=st
  exact⟨o,e,fun v z=>by rw[d] at z;cases z⟩
 keep:=fun i h h' st k=>st.at fun o e=>k it (by simp) o e
 item:=by
  intro X hP hw hK hc i pins s σ H E I hf st hg
  subst hP hw hK
  obtain⟨xs,x,hq,hx⟩:=hg
  obtain⟨its,rv,p,hz⟩:=I.tuple hq
  obtain⟨u,hu,ru⟩:=rv.get hx
  obtain⟨f0,f1,f2,f3,f4,f5⟩:=hf it (by simp)
  refine wpAny_pyNext_tuple_item st (show s.heap.IsTuple a its.toArray from p) (x:=u) (by simpa using hu) fun h' st' sb=> ?_
  have I1:Inv X pins σ H {s with heap:=h'}:=I.turned (t':=s.toks) (fun b o hb e=>(sb.2 b hb).trans e) f0 f1 f3 f4 f5
  obtain⟨o,e,c,d⟩:=id st'
  exact⟨u,rfl,tU (s:={s with heap:=h'}) e c d (by decide) ⟨x,H,I1,ru,⟨rfl,fun ys hy=>by rw[I.tuple_inj hy hq];exact hx⟩,st',fun b hb=>(hf b hb).1⟩⟩
 done:=by
  intro X hP hw hK hc i pins s σ H E I hf st hg
  subst hP hw hK
  obtain⟨xs,hq,hx⟩:=hg
  obtain⟨its,rv,p,hz⟩:=I.tuple hq
  obtain⟨f0,f1,f2,f3,f4,f5⟩:=hf it (by simp)
  have hl:=rv.length
  exact wpAny_pyNext_tuple_end (I.ok.hd hc) st (show s.heap.IsTuple a its.toArray from p) (by simp;omega) fun h' eb=>⟨rfl,I.turned (t':=s.toks) (fun b o hb e=>eb b o hb e) f0 f1 f3 f4 f5⟩
 self:=fun _ _ _ _ _ st h=>wpAny_pyIter_tupleiter st h
theorem sv{P:Program}{w:World}{K:PySem.W.Frag}{tg:Expr}(it:Addr)(lo:Int)(n:Nat):Turn P w K tg (Itr lo n) [it] it (fun i h=>IsRangeIter h it (lo+(i:Nat)*1) ((n:Int)-(i:Nat)) 1) where
 mem:=by simp
 obj:=fun i h st b hb=>by
  have e:b=it:=by simpa using hb
  subst e
  exact⟨_,st,fun v z=>by
   have z':Data.fields _=Data.cell v:=z
   cases z'⟩
 keep:=fun i h h' st k=>k it (by simp) _ st
 item:=by
  intro X hP hw hK hc i pins s σ H E I hf st hg
  subst hP hw hK
  obtain⟨f0,f1,f2,f3,f4,f5⟩:=hf it (by simp)
  have W:=Walks.range (prog:=X.prog) (w:=X.w) (I.ok.hd hc) it lo 1 n
  refine W.item i s _ _ hg st fun v h' tk hv st' kk=> ?_
  obtain⟨t,rfl⟩:=hv
  have I1:Inv X pins σ H {s with heap:=h',toks:=tk}:=I.turned (fun b o hb e=>kk b o (by simpa using hb) e) f0 f1 f3 f4 f5
  refine⟨_,rfl,tU (s:={s with heap:=h',toks:=tk}) (n:="range_iterator") st' rfl rfl (by decide) ⟨.int (lo+i),H,I1,⟨t, ?_⟩,⟨rfl,rfl⟩,st',fun b hb=>(hf b hb).1⟩⟩
  rw[Int.mul_one]
 done:=by
  intro X hP hw hK hc i pins s σ H E I hf st hg
  subst hP hw hK
  obtain⟨f0,f1,f2,f3,f4,f5⟩:=hf it (by simp)
  exact wpAny_pyNext_range_end (I.ok.hd hc) st (by have:n≤i:=hg;omega) fun h' eb=>⟨rfl,I.turned (t':=s.toks) (fun b o hb e=>eb b o hb e) f0 f1 f3 f4 f5⟩
 self:=fun _ _ _ _ _ st h=>wpAny_pyIter_rangeiter st h
end L2
namespace L2
open PySem PySem.Spec PyProof.Rows
section
variable{X:Cx}{tg:Expr}
def Az(K:W.Frag)(tl:TE):TI:=fun σ H R=>tl σ H fun x H1=>∃a,x= .ref a∧(∃xs,SqL K H1 a xs)∧R (Itl K a) H1
def CV(K:W.Frag)(tl:TE):TI:=fun σ H R=>tl σ H fun x H1=>∃a,x= .ref a∧(∃xs,SqT K H1 a xs)∧R (Itt K a) H1
theorem gu{l:Expr}{tl:TE}(hl:PE X l tl):PI X tg l (Az X.K tl):=by
 intro pins s σ H R I h
 refine thn (hl pins s σ H _ I h) fun v s1 ⟨x,H1,I1,r1,q1⟩=> ?_
 obtain⟨a,e,⟨xs,hq⟩,q⟩:=q1
 subst e
 cases r1
 obtain⟨its,rv,p,hz⟩:=I1.list hq
 refine wpAny_pyIter_list p.isList ?_
 refine⟨s1.heap.objs.size,[s1.heap.objs.size],_,_,H1,rfl,I1.kept (t':=s1.toks) fun b o e=>Heap.get?_push_of_some _ e,va a _,⟨_,Heap.get?_push_size _ rfl,rfl,rfl⟩,fun b hb=> ?_,q⟩
 have e:b=s1.heap.objs.size:=by simpa using hb
 subst e
 exact I1.fpOk (Nat.le_refl _) (I1.hok.fresh (Nat.le_refl _))
theorem iL{l:Expr}{tl:TE}(hl:PE X l tl):PI X tg l (CV X.K tl):=by
 intro pins s σ H R I h
 refine thn (hl pins s σ H _ I h) fun v s1 ⟨x,H1,I1,r1,q1⟩=> ?_
 obtain⟨a,e,⟨xs,hq⟩,q⟩:=q1
 subst e
 cases r1
 obtain⟨its,rv,p,hz⟩:=I1.tuple hq
 refine wpAny_pyIter_tuple (show s1.heap.IsTuple a its.toArray from p) ?_
 refine⟨s1.heap.objs.size,[s1.heap.objs.size],_,_,H1,rfl,I1.kept (t':=s1.toks) fun b o e=>Heap.get?_push_of_some _ e,su a _,⟨_,Heap.get?_push_size _ rfl,rfl,rfl⟩,fun b hb=> ?_,q⟩
 have e:b=s1.heap.objs.size:=by simpa using hb
 subst e
 exact I1.fpOk (Nat.le_refl _) (I1.hok.fresh (Nat.le_refl _))
theorem vV{pins:List (Addr×Obj)}{σ:St}{H:Hp}{s:Shared}{R:It→Hp→Prop}{E:Value→Shared→Prop}{lo hi:Int}{t u v:Tok}{tk:Nat}(I:Inv X pins σ H s)(h1: -(2^62)≤lo)(h2:lo<2^62)(h3: -(2^62)≤hi)(h4:hi<2^62)
 (q:R (Itr lo (hi-lo).toNat) H):wpAny (model X.prog X.w) X.A (pyIter (.ref s.heap.objs.size)) (PIE X pins σ tg R) E {s with heap:=s.heap.push {cls:= .type "range",data:= .fields #[.int lo t, .int hi u, .int 1 v]},toks:=tk}:=by
 refine wpAny_pyIter_range (IsRange.new ..) (small_one h1 h2 h3 h4) ?_
 have I1:Inv X pins σ H {s with heap:=s.heap.push {cls:= .type "range",data:= .fields #[.int lo t, .int hi u, .int 1 v]},toks:=tk}:=I.kept fun b o e=>Heap.get?_push_of_some _ e
 refine⟨(s.heap.push {cls:= .type "range",data:= .fields #[.int lo t, .int hi u, .int 1 v]}).objs.size,[(s.heap.push {cls:= .type "range",data:= .fields #[.int lo t, .int hi u, .int 1 v]}).objs.size],_,_,H,rfl,
  I1.kept (t':=tk) fun b o e=>Heap.get?_push_of_some _ e,sv _ lo (hi-lo).toNat, ?_,fun b hb=> ?_,q⟩
 · have e1:lo+((0:Nat):Int)*1=lo:=by simp
   have e2:(((hi-lo).toNat:Nat):Int)-((0:Nat):Int)=Builtin.Range.rangeSize lo hi 1:=by rw[rangeSize_one];split<;>omega
   show IsRangeIter _ _ (lo+((0:Nat):Int)*1) ((((hi-lo).toNat:Nat):Int)-((0:Nat):Int)) 1
   rw[e1,e2]
   exact Heap.get?_push_size _ rfl
 · have e:b=(s.heap.push {cls:= .type "range",data:= .fields #[.int lo t, .int hi u, .int 1 v]}).objs.size:=by simpa using hb
   subst e
   exact I1.fpOk (Nat.le_refl _) (I1.hok.fresh (Nat.le_refl _))
def AA(ta:TA):TI:=fun σ H R=>ta σ H fun vs H1=>∃j:Int,vs=[.int j]∧ -(2^62)≤j∧j<2^62∧R (Itr 0 j.toNat) H1
theorem jX{a:Expr}{ta:TA}{p pos:Pos}(hg:Gl X "range")(hm:X.mg "range"=none)(ha:PA X [a] ta)(hs:starEach [a] X.env=[(false,eval a X.env)]:=by rfl):PI X tg (.Call (.Name "range" p) [a] [] pos) (AA ta):=by
 intro pins s σ H R I h
 refine Call_ (kn I hg hm boot_range (PyProof.Rows.callWith_type1 (thn (ha pos pins s σ H _ I h) fun us s1 ⟨vs,H1,I1,r1,q1⟩=> ?_) hs rfl))
 obtain⟨j,e,q1,q2,q⟩:=q1
 subst e
 cases r1 with
 |cons r rr=>
  cases rr
  obtain⟨t,rfl⟩:=r
  exact call_range_1 (vV I1 (by omega) (by omega) q1 q2 (by simpa using q))
def CW(wi:TI)(g:TG)(tb:TS):TS:=fun D σ H=>wi σ H fun J H1=>∃W:Nat→Nat→St→Hp→Prop,(∃m,W 0 m σ H1)∧∀i m σ H,W i m σ H→
 (J.stop i H∧D.nx σ H)∨(J.go i H∧∃N:St→Hp→Prop,(∀σ' H',N σ' H'→∃m',m'<m∧W (i+1) m' σ' H')∧∀x H',J.yld i H x H'→g x σ H' fun σ2 H2=>tb {D with nx:=N,ct:=N,bk:=D.nx} σ2 H2)
def lA(fp:List Addr)(h:Heap):List (Addr×Obj):=fp.filterMap fun b=>(h.get? b).map fun o=>(b,o)
theorem fX{fp:List Addr}{h:Heap}{b:Addr}{o:Obj}(hb:b∈fp)(e:h.get? b=some o):(b,o)∈lA fp h:=List.mem_filterMap.mpr ⟨b,hb,by rw[e];rfl⟩
theorem vb{fp:List Addr}{h:Heap}{p:Addr×Obj}(hp:p∈lA fp h):p.1∈fp∧h.get? p.1=some p.2:=by
 obtain⟨b,hb,e⟩:=List.mem_filterMap.mp hp
 cases q:h.get? b with
 |none=>rw[q] at e;cases e
 |some o=>
  rw[q] at e
  have e':(b,o)=p:=Option.some.inj e
  subst e'
  exact⟨hb,q⟩
theorem Inv.pinned{pins:List (Addr×Obj)}{σ:St}{H:Hp}{s:Shared}{fp:List Addr}(I:Inv X pins σ H s)(hf:∀b∈fp,j5 X pins H b)(ho:∀b∈fp,∃o,s.heap.get? b=some o∧∀v,o.data≠ .cell v):Inv X (pins++lA fp s.heap) σ H s:=
 I.pins_of fun p hp=>(List.mem_append.mp hp).elim (fun z=>I.pin p (List.mem_append_right _ z)) fun z=>by
  obtain⟨hb,e⟩:=vb z
  obtain⟨f0,f1,f2,_⟩:=hf p.1 hb
  obtain⟨o,e',d⟩:=ho p.1 hb
  rw[e] at e';cases e'
  exact⟨e,f0,f1,f2,d⟩
theorem Inv.unpinned{pins pl:List (Addr×Obj)}{σ:St}{H:Hp}{s:Shared}(I:Inv X (pins++pl) σ H s):Inv X pins σ H s:=I.pins_of fun p hp=>I.pin p (List.mem_append_right _ (List.mem_append_left _ hp))
theorem lC{iter:Expr}{body:List Stmt}{wi:TI}{g:TG}{tb:TS}{pos:Pos}(hp:PassesOwn (model X.prog X.w) X.A X.env X.xe)(hc:X.calm=true)(hi:PI X tg iter wi)(hg:PG X tg g)(hb:PSs X body tb)
 (hs:∀x,foldedSetIterable iter X.env x=pure x:=by intro _;rfl):PS X (.For tg iter body [] pos) (CW wi g tb):=by
 intro pins s σ H D I h
 refine wpAny_For (thn (hi pins s σ H _ I h) fun v s1 h1=>thn h1 fun itv s2 h2=> ?_) hs
 obtain⟨it,fp,tn,J,H2,e,I2,T,st2,f2,W,⟨m0,w0⟩,turn⟩:=h2
 subst e
 have stat:∀{H':Hp},(∀b∈fp,H' b=none)→∀b∈fp,j5 X pins H' b:=fun hn b hb=>⟨hn b hb,(f2 b hb).2⟩
 refine codeAny_forLoop_any (fun n s'=>∃i σ' H',Inv X pins σ' H' s'∧tn i s'.heap∧(∀b∈fp,H' b=none)∧W i n σ' H') ?_ m0 ⟨0,σ,H2,I2,st2,fun b hb=>(f2 b hb).1,w0⟩
 rintro n s3 ⟨i,σ3,H3,I3,st3,fr3,w3⟩
 rcases turn i n σ3 H3 w3 with⟨stop,qn⟩|⟨go,N,hN,step⟩
 · refine wpAny_passesOwn hp (thn (T.done X rfl rfl rfl hc i pins s3 σ3 H3 X.xe I3 (stat fr3) st3 stop) fun r s4 ⟨hr,I4⟩=> ?_)
   subst hr
   exact wpAny_execs_nil ⟨σ3,H3,I4,qn⟩
 · refine wpAny_passesOwn hp (thn (T.item X rfl rfl rfl hc i pins s3 σ3 H3 X.xe I3 (stat fr3) st3 go) fun r s4 ⟨u,hr,h4⟩=> ?_)
   subst hr
   refine wpAny_passesOwn hp (thn h4 fun _ s5 ⟨x,H5,I5,r5,y5,st5,fr5⟩=> ?_)
   have I5':=I5.pinned (stat fr5) (T.obj _ _ st5)
   refine wpAny_passesOwn hp (thn (hg _ s5 σ3 H5 x u _ I5' r5 (step x H5 y5)) fun _ s6 ⟨σ6,H6,I6,q6⟩=> ?_)
   refine wpAny_passesOwn hp (thn (hb _ s6 σ6 H6 _ I6 q6) fun f s7 q7=> ?_)
   have again:∀{σ7:St} {H7:Hp},Inv X (pins++lA fp s5.heap) σ7 H7 s7→N σ7 H7→∃m,m<n∧∃i σ' H',Inv X pins σ' H' s7∧tn i s7.heap∧(∀b∈fp,H' b=none)∧W i m σ' H':=fun {σ7 H7} I7 n7=>by
    obtain⟨m',hm,w7⟩:=hN σ7 H7 n7
    refine⟨m',hm,i+1,σ7,H7,I7.unpinned,T.keep _ _ _ st5 fun b hb o e=>(I7.pin (b,o) (List.mem_append_right _ (List.mem_append_right _ (fX hb e)))).1,fun b hb=> ?_,w7⟩
    obtain⟨o,e,d⟩:=T.obj _ _ st5 b hb
    exact(I7.pin (b,o) (List.mem_append_right _ (List.mem_append_right _ (fX hb e)))).2.1
   cases f with
   |next=>obtain⟨σ7,H7,I7,n7⟩:=q7;exact again I7 n7
   |cont=>obtain⟨σ7,H7,I7,n7⟩:=q7;exact again I7 n7
   |brk=>obtain⟨σ7,H7,I7,q7⟩:=q7;exact⟨σ7,H7,I7.unpinned,q7⟩
   |ret v=>obtain⟨x7,σ7,H7,I7,r7,q7⟩:=q7;exact⟨x7,σ7,H7,I7.unpinned,r7,q7⟩
end
abbrev R2:=V→V→Hp→VK→Prop
def OpR(X:Cx)(f:Value→Value→Sem Value)(r:R2):Prop:=
 ∀(pins:List (Addr×Obj)) (s:Shared) (σ:St) (H:Hp) (x y:V) (v u:Value) (Q:VK),Inv X pins σ H s→RelV x v→RelV y u→r x y H Q→
  wpAny (model X.prog X.w) X.A (f v u) (EP X pins σ Q) X.xe s
def CallR(X:Cx)(f:Value)(r:List V→Hp→VK→Prop):Prop:=
 ∀(pins:List (Addr×Obj)) (s:Shared) (σ:St) (H:Hp) (xs:List V) (us:List Value) (Q:VK),Inv X pins σ H s→Vals xs us→r xs H Q→
  wpAny (model X.prog X.w) X.A (call f us) (EP X pins σ Q) X.xe s
def Ec(X:Cx)(r:V→Hp→(Bool→Hp→Prop)→Prop):Prop:=
 ∀(pins:List (Addr×Obj)) (s:Shared) (σ:St) (H:Hp) (x:V) (v:Value) (Q:Bool→Hp→Prop),Inv X pins σ H s→RelV x v→r x H Q→
  wpAny (model X.prog X.w) X.A (truthy v) (TP X pins σ Q) X.xe s
def tOp(r:R2)(ta tb:TE):TE:=fun σ H Q=>ta σ H fun x H1=>tb σ H1 fun y H2=>r x y H2 Q
def rI(C:Int→Int→Prop)(g:Int→Int→V):R2:=fun x y H Q=>∃i j,x= .int i∧y= .int j∧C i j∧Q (g i j) H
def rI0(g:Int→Int→V):R2:=fun x y H Q=>∃i j,x= .int i∧y= .int j∧Q (g i j) H
section
variable{X:Cx}{a b c:Expr}{ta tb tc:TE}{pos:Pos}
theorem Bj(ha:PE X a ta)(hb:PE X b tb){pins:List (Addr×Obj)}{s:Shared}{σ:St}{H:Hp}{R:V→V→Hp→Prop}(I:Inv X pins σ H s)
 (h:ta σ H fun x H1=>tb σ H1 fun y H2=>R x y H2){Q:Value→Shared→Prop}{f:Value→Value→Sem Value}
 (hf:∀v u s2 x y H2,Inv X pins σ H2 s2→RelV x v→RelV y u→R x y H2→wpAny (model X.prog X.w) X.A (f v u) Q X.xe s2):
 wpAny (model X.prog X.w) X.A (eval a X.env) (fun v s₁=>wpAny (model X.prog X.w) X.A (eval b X.env) (fun u s₂=>wpAny (model X.prog X.w) X.A (f v u) Q X.xe s₂) X.xe s₁) X.xe s:=by
 refine thn (ha pins s σ H _ I h) fun v s1 ⟨x,H1,I1,r1,q1⟩=> ?_
 refine thn (hb pins s1 σ H1 _ I1 q1) fun u s2 ⟨y,H2,I2,r2,q2⟩=> ?_
 exact hf v u s2 x y H2 I2 r1 r2 q2
theorem aq{op:Operator}{r:R2}(ho:OpR X (binaryOp op) r)(ha:PE X a ta)(hb:PE X b tb):PE X (.BinOp a op b pos) (tOp r ta tb):=by
 intro pins s σ H Q I h
 exact wpAny_BinOp (Bj ha hb I h fun v u s2 x y H2 I2 rx ry q=>ho pins s2 σ H2 x y v u Q I2 rx ry q)
theorem opI{f:Value→Value→Sem Value}{C:Int→Int→Prop}{g:Int→Int→Int}
 (rule:∀(i j:Int) (t u:Tok) (s:Shared) (Q:Value→Shared→Prop) (E:Value→Shared→Prop),C i j→Q (.int (g i j) s.toks) {s with toks:=s.toks+1}→wpAny (model X.prog X.w) X.A (f (.int i t) (.int j u)) Q E s):
 OpR X f (rI C fun i j=> .int (g i j)):=by
 intro pins s σ H x y v u Q I rx ry h
 obtain⟨i,j,rfl,rfl,hc,q⟩:=h
 obtain⟨t,rfl⟩:=rx
 obtain⟨t',rfl⟩:=ry
 exact rule i j t t' s _ _ hc ⟨.int (g i j),H,I.tok _,⟨_,rfl⟩,q⟩
theorem CY{f:Value→Value→Sem Value}{g:Int→Int→Int}
 (rule:∀(i j:Int) (t u:Tok) (s:Shared) (Q:Value→Shared→Prop) (E:Value→Shared→Prop),Q (.int (g i j) s.toks) {s with toks:=s.toks+1}→wpAny (model X.prog X.w) X.A (f (.int i t) (.int j u)) Q E s):
 OpR X f (rI0 fun i j=> .int (g i j)):=by
 intro pins s σ H x y v u Q I rx ry h
 obtain⟨i,j,rfl,rfl,q⟩:=h
 obtain⟨t,rfl⟩:=rx
 obtain⟨t',rfl⟩:=ry
 exact rule i j t t' s _ _ ⟨.int (g i j),H,I.tok _,⟨_,rfl⟩,q⟩
theorem vW{f:Value→Value→Sem Value}{g:Int→Int→Bool}
 (rule:∀(i j:Int) (t u:Tok) (s:Shared) (Q:Value→Shared→Prop) (E:Value→Shared→Prop),Q (.bool (g i j)) s→wpAny (model X.prog X.w) X.A (f (.int i t) (.int j u)) Q E s):
 OpR X f (rI0 fun i j=> .bl (g i j)):=by
 intro pins s σ H x y v u Q I rx ry h
 obtain⟨i,j,rfl,rfl,q⟩:=h
 obtain⟨t,rfl⟩:=rx
 obtain⟨t',rfl⟩:=ry
 exact rule i j t t' s _ _ ⟨.bl (g i j),H,I,rfl,q⟩
def CZ(i j:Int):Prop:=0<j∧j<1073741824
theorem Bk:OpR X (binaryOp .Add) (rI0 fun i j=> .int (i+j)):=CY fun _ _ _ _ _ _ _ q=>add_int q
theorem fO:OpR X (binaryOp .Sub) (rI0 fun i j=> .int (i-j)):=CY fun _ _ _ _ _ _ _ q=>sub_int q
theorem bj:OpR X (binaryOp .FloorDiv) (rI CZ fun i j=> .int (i/j)):=opI fun i j _ _ _ _ _ hc q=>by
 have h1:(0:Int)<j:=hc.1
 have h2:j<1073741824:=hc.2
 exact floordiv_int (by omega) (by rw[Int.fdiv_eq_ediv_of_nonneg i (by omega)];exact q) (.inl (PyProof.noPylong_small (by omega)))
theorem bd:OpR X (binaryOp .Mod) (rI (fun _ j=>0<j) fun i j=> .int (i%j)):=opI fun i j _ _ _ _ _ hc q=>by
 have h1:(0:Int)<j:=hc
 exact mod_int' (by omega) (by rw[Int.fmod_eq_emod_of_nonneg i (by omega)];exact q)
end
def C9:V→V→Bool
 | .non, .non=>true| .non, .int _=>true| .int _, .non=>true| .non, .bl _=>true| .bl _, .non=>true| .non, .str _=>true| .str _, .non=>true
 | .int _, .int _=>true| .bl _, .bl _=>true| .str _, .str _=>true| .byt _, .byt _=>true
 | .int _, .str _=>true| .str _, .int _=>true| .bl _, .str _=>true| .str _, .bl _=>true
 |_,_=>false
def rEq:R2:=fun x y H Q=>C9 x y=true∧Q (.bl (decide (x=y))) H
def rNe:R2:=fun x y H Q=>C9 x y=true∧Q (.bl (!decide (x=y))) H
theorem tV{i j:Int}:decide (V.int i=V.int j)=(i==j):=by
 rw[Bool.eq_iff_iff]
 simp
theorem vX{i j:Bool}:decide (V.bl i=V.bl j)=(i==j):=by
 rw[Bool.eq_iff_iff]
 simp
theorem tX{i j:Str}:decide (V.str i=V.str j)=(i==j):=by
 rw[Bool.eq_iff_iff]
 simp
theorem tY{i j:Array UInt8}:decide (V.byt i=V.byt j)=(i.toList==j.toList):=by
 rw[Bool.eq_iff_iff]
 cases i
 cases j
 simp
section
variable{X:Cx}{a b c:Expr}{ta tb tc:TE}{pos:Pos}
theorem bH{pins:List (Addr×Obj)}{σ:St}{H:Hp}{s:Shared}{Q:VK}{k k':Bool}(I:Inv X pins σ H s)(q:Q (.bl k) H)(e:k=k'):EP X pins σ Q (.bool k') s:=by
 subst e
 exact⟨.bl k,H,I,rfl,q⟩
theorem Da:OpR X (compareOp .Eq) rEq:=by
 intro pins s σ H x y v u Q I rx ry h
 obtain⟨hs,q⟩:=h
 cases x with
 |non=>
  cases rx
  cases y with
  |non=>cases ry;exact PySem.EqNone.eq_none_none (bH I q (by simp))
  |bl j=>cases ry;exact PySem.EqNone.eq_none_bool (bH I q (by simp))
  |int j=>obtain⟨t',rfl⟩:=ry;exact PySem.EqNone.eq_none_int (bH I q (by simp))
  |str j=>obtain⟨t',rfl⟩:=ry;exact PySem.EqNone.eq_none_str (bH I q (by simp))
  |_=>exact absurd (show false=true from hs) Bool.false_ne_true
 |bl i=>
  cases rx
  cases y with
  |non=>cases ry;exact PySem.EqNone.eq_bool_none (bH I q (by simp))
  |bl j=>cases ry;exact eq_bool (bH I q vX)
  |str j=>obtain⟨t',rfl⟩:=ry;exact PySem.EqMixed.eq_bool_str (bH I q (by simp))
  |_=>exact absurd (show false=true from hs) Bool.false_ne_true
 |int i=>
  obtain⟨t,rfl⟩:=rx
  cases y with
  |non=>cases ry;exact PySem.EqNone.eq_int_none (bH I q (by simp))
  |int j=>obtain⟨t',rfl⟩:=ry;exact eq_int (bH I q tV)
  |str j=>obtain⟨t',rfl⟩:=ry;exact PySem.EqMixed.eq_int_str (bH I q (by simp))
  |_=>exact absurd (show false=true from hs) Bool.false_ne_true
 |str i=>
  obtain⟨t,rfl⟩:=rx
  cases y with
  |non=>cases ry;exact PySem.EqNone.eq_str_none (bH I q (by simp))
  |bl j=>cases ry;exact PySem.EqMixed.eq_str_bool (bH I q (by simp))
  |int j=>obtain⟨t',rfl⟩:=ry;exact PySem.EqMixed.eq_str_int (bH I q (by simp))
  |str j=>obtain⟨t',rfl⟩:=ry;exact eq_str (bH I q tX)
  |_=>exact absurd (show false=true from hs) Bool.false_ne_true
 |byt i=>
  obtain⟨t,rfl⟩:=rx
  cases y with
  |byt j=>obtain⟨t',rfl⟩:=ry;exact W.eq_bytes (bH I q tY)
  |_=>exact absurd (show false=true from hs) Bool.false_ne_true
 |_=>cases y<;>exact absurd (show false=true from hs) Bool.false_ne_true
theorem Db:OpR X (compareOp .NotEq) rNe:=by
 intro pins s σ H x y v u Q I rx ry h
 obtain⟨hs,q⟩:=h
 cases x with
 |non=>
  cases rx
  cases y with
  |non=>cases ry;exact PySem.EqNone.ne_none_none (bH I q (by simp))
  |bl j=>cases ry;exact PySem.EqNone.ne_none_bool (bH I q (by simp))
  |int j=>obtain⟨t',rfl⟩:=ry;exact PySem.EqNone.ne_none_int (bH I q (by simp))
  |str j=>obtain⟨t',rfl⟩:=ry;exact PySem.EqNone.ne_none_str (bH I q (by simp))
  |_=>exact absurd (show false=true from hs) Bool.false_ne_true
 |bl i=>
  cases rx
  cases y with
  |non=>cases ry;exact PySem.EqNone.ne_bool_none (bH I q (by simp))
  |bl j=>cases ry;exact ne_bool (bH I q (congrArg not vX))
  |str j=>obtain⟨t',rfl⟩:=ry;exact PySem.EqMixed.ne_bool_str (bH I q (by simp))
  |_=>exact absurd (show false=true from hs) Bool.false_ne_true
 |int i=>
  obtain⟨t,rfl⟩:=rx
  cases y with
  |non=>cases ry;exact PySem.EqNone.ne_int_none (bH I q (by simp))
  |int j=>obtain⟨t',rfl⟩:=ry;exact ne_int (bH I q (congrArg not tV))
  |str j=>obtain⟨t',rfl⟩:=ry;exact PySem.EqMixed.ne_int_str (bH I q (by simp))
  |_=>exact absurd (show false=true from hs) Bool.false_ne_true
 |str i=>
  obtain⟨t,rfl⟩:=rx
  cases y with
  |non=>cases ry;exact PySem.EqNone.ne_str_none (bH I q (by simp))
  |bl j=>cases ry;exact PySem.EqMixed.ne_str_bool (bH I q (by simp))
  |int j=>obtain⟨t',rfl⟩:=ry;exact PySem.EqMixed.ne_str_int (bH I q (by simp))
  |str j=>obtain⟨t',rfl⟩:=ry;exact ne_str (bH I q (congrArg not tX))
  |_=>exact absurd (show false=true from hs) Bool.false_ne_true
 |byt i=>
  obtain⟨t,rfl⟩:=rx
  cases y with
  |byt j=>obtain⟨t',rfl⟩:=ry;exact W.ne_bytes (bH I q (congrArg not tY))
  |_=>exact absurd (show false=true from hs) Bool.false_ne_true
 |_=>cases y<;>exact absurd (show false=true from hs) Bool.false_ne_true
theorem kG:OpR X (compareOp .Lt) (rI0 fun i j=> .bl (decide (i<j))):=vW fun _ _ _ _ _ _ _ q=>lt_int q
theorem ka:OpR X (compareOp .Gt) (rI0 fun i j=> .bl (decide (j<i))):=vW fun _ _ _ _ _ _ _ q=>gt_int q
theorem rg:OpR X (compareOp .GtE) (rI0 fun i j=> .bl (decide (j≤i))):=vW fun _ _ _ _ _ _ _ q=>ge_int q
theorem vc:OpR X (compareOp .In) (fun x y H Q=>∃i j,x= .str i∧y= .str j∧Q (.bl (!(Builtin.Str.occurrences j i 0 j.length 1).isEmpty)) H):=by
 intro pins s σ H x y v u Q I rx ry h
 obtain⟨i,j,rfl,rfl,q⟩:=h
 obtain⟨t,rfl⟩:=rx
 obtain⟨t',rfl⟩:=ry
 exact in_str (bH I q rfl)
theorem Bl:OpR X (compareOp .Is) (fun x y H Q=>y= .non∧Q (.bl (decide (x= .non))) H):=by
 intro pins s σ H x y v u Q I rx ry h
 obtain⟨rfl,q⟩:=h
 cases ry
 refine is_none_gen (bH I q ?_)
 cases x<;>first
  |(cases rx;rfl)
  |(obtain⟨t,rfl⟩:=rx;rfl)
theorem yY:OpR X (compareOp .IsNot) (fun x y H Q=>y= .non∧Q (.bl (!decide (x= .non))) H):=by
 intro pins s σ H x y v u Q I rx ry h
 obtain⟨rfl,q⟩:=h
 cases ry
 refine isnot_none_gen (bH I q ?_)
 cases x<;>first
  |(cases rx;rfl)
  |(obtain⟨t,rfl⟩:=rx;rfl)
theorem OpR.or{f:Value→Value→Sem Value}{r r':R2}(h:OpR X f r)(h':OpR X f r'):OpR X f (fun x y H Q=>r x y H Q∨r' x y H Q):=by
 intro pins s σ H x y v u Q I rx ry q
 rcases q with q|q
 · exact h pins s σ H x y v u Q I rx ry q
 · exact h' pins s σ H x y v u Q I rx ry q
theorem aO(b:Expr){op:CmpOp}(h:op≠ .In:=by decide)(h2:op≠ .NotIn:=by decide):behindInMarks op b=false:=by
 have e1:(op==CmpOp.In)=false:=by cases op<;>first|rfl|exact absurd rfl h
 have e2:(op==CmpOp.NotIn)=false:=by cases op<;>first|rfl|exact absurd rfl h2
 cases b<;>simp[behindInMarks,e1,e2]
theorem jY{op:CmpOp}{r:R2}(ho:OpR X (compareOp op) r)(ha:PE X a ta)(hb:PE X b tb)(hm:behindInMarks op b=false):PE X (.Compare a [op] [b] pos) (tOp r ta tb):=by
 intro pins s σ H Q I h
 exact wpAny_Compare1 (Bj ha hb I h fun v u s2 x y H2 I2 rx ry q=>ho pins s2 σ H2 x y v u Q I2 rx ry q) hm
def vY(t:TE):TT:=fun σ H Q=>t σ H fun x H'=>∃k,x= .bl k∧Q k H'
theorem aH{op:CmpOp}{r:R2}(ho:OpR X (compareOp op) r)(ha:PE X a ta)(hb:PE X b tb)(hm:behindInMarks op b=false):PT X (.Compare a [op] [b] pos) (vY (tOp r ta tb)):=by
 intro pins s σ H Q I h
 refine wpAny_isTrue_Compare1 (thn (ha pins s σ H _ I h) fun v s1 ⟨x,H1,I1,r1,q1⟩=>thn (hb pins s1 σ H1 _ I1 q1) fun u s2 ⟨y,H2,I2,r2,q2⟩=>
  thn (ho pins s2 σ H2 x y v u _ I2 r1 r2 q2) fun c s3 ⟨z,H3,I3,r3,k,e,q3⟩=> ?_) hm
 subst e
 cases r3
 exact wpAny_truthy_bool ⟨H3,I3,q3⟩
def Bm(K:W.Frag)(x:V)(H:Hp)(k:Bool):Prop:=
 match x with
 | .non=>k=false
 | .bl b=>k=b
 | .int i=>k=(i != 0)
 | .str y=>y.length≤sizeLine∧k=((y.length:Int) != 0)
 | .byt y=>y.size≤sizeLine∧k=((y.size:Int) != 0)
 | .ref p=>(∃xs,SqL K H p xs∧k= !xs.isEmpty)∨(∃xs,SqT K H p xs∧k= !xs.isEmpty)∨∃kvs,H p=some (.dK kvs)∧k= !kvs.isEmpty
 |_=>False
theorem sw{κ:Type}{kvs:List (κ×V)}{vs:List (κ×Value)}(r:KV kvs vs):(!vs.isEmpty)= !kvs.isEmpty:=by
 cases r<;>rfl
theorem mM{xs:List V}{its:List Value}(r:Vals xs its):(!its.toArray.isEmpty)= !xs.isEmpty:=by
 cases r<;>simp
theorem lD:(sizeLine:Nat)<2^63:=by rw[sizeLine_eq];decide
theorem Bn:Ec X (fun x H Q=>∃k,Bm X.K x H k∧Q k H):=by
 intro pins s σ H x v Q I rx h
 obtain⟨k,e,q⟩:=h
 have hl:=lD
 have hs:sizeLine=16777216:=sizeLine_eq
 cases x with
 |non=>
  cases rx
  have e':k=false:=e
  subst e'
  exact truthy_none ⟨H,I,q⟩
 |bl b=>
  cases rx
  have e':k=b:=e
  subst e'
  exact wpAny_truthy_bool ⟨H,I,q⟩
 |int i=>
  obtain⟨t,rfl⟩:=rx
  have e':k=(i != 0):=e
  subst e'
  exact PySem.P.truthy_int ⟨H,I,q⟩
 |str y=>
  obtain⟨t,rfl⟩:=rx
  obtain⟨hy,e'⟩:y.length≤sizeLine∧k=((y.length:Int) != 0):=e
  subst e'
  exact PySem.P.truthy_str (by omega) ⟨H,I.tok _,q⟩
 |byt y=>
  obtain⟨t,rfl⟩:=rx
  obtain⟨hy,e'⟩:y.size≤sizeLine∧k=((y.size:Int) != 0):=e
  subst e'
  exact W.truthy_bytes (by omega) ⟨H,I.tok _,q⟩
 |ref p=>
  cases rx
  have e':(∃xs,SqL X.K H p xs∧k= !xs.isEmpty)∨(∃xs,SqT X.K H p xs∧k= !xs.isEmpty)∨∃kvs,H p=some (.dK kvs)∧k= !kvs.isEmpty:=e
  rcases e' with⟨xs,hx,e'⟩|⟨xs,hx,e'⟩|⟨kvs,hx,e'⟩
  · subst e'
    obtain⟨its,r,pl,hz⟩:=I.list hx
    have hlen:=r.length
    exact wpAny_truthy_list pl.isList (by simp only[List.size_toArray];omega) ⟨H,I.tok _,by rw[mM r];exact q⟩
  · subst e'
    obtain⟨its,r,pl,hz⟩:=I.tuple hx
    have hlen:=r.length
    exact truthy_tuple pl (by simp only[List.size_toArray];omega) ⟨H,I.tok _,by rw[mM r];exact q⟩
  · subst e'
    obtain⟨hz,hS,vs,r,m⟩:kvs.length≤sizeLine∧(p==sysModules)=false∧∃vs,KV kvs vs∧s.heap.DictOf (pM X.prog X.w) p vs:=I.hok p _ hx
    have hlen:kvs.length=vs.length:=Paired.length r
    exact wpAny_truthy_dict hS m (by omega) ⟨H,I.tok _,by rw[sw r];exact q⟩
 |_=>exact(show False from e).elim
theorem rh(ha:PE X a ta)(he:∀whole,isTrue a X.env whole=(do let v ←whole;standAt a.pos;holding [v] (truthy v))):
 PT X a (fun σ H Q=>ta σ H fun x H'=>∃k,Bm X.K x H' k∧Q k H'):=by
 intro pins s σ H Q I h
 exact isTrue_plain (thn (ha pins s σ H _ I h) fun v s1 ⟨x,H1,I1,r1,q1⟩=>Bn pins s1 σ H1 x v Q I1 r1 q1) (he _)
theorem sx:OpR X (binaryOp .Add) (fun x y H Q=>∃i j,x= .str i∧y= .str j∧i.length+j.length≤sizeLine∧Q (.str (i++j)) H):=by
 intro pins s σ H x y v u Q I rx ry h
 obtain⟨i,j,rfl,rfl,hz,q⟩:=h
 obtain⟨t,rfl⟩:=rx
 obtain⟨t',rfl⟩:=ry
 exact add_str (fun t' tk=>⟨.str (i++j),H,I.tok _,⟨_,rfl⟩,q⟩) hz
theorem mN{x:V}{us:List Value}(r:Vals [x] us):∃u,us=[u]∧RelV x u:=by
 cases r with
 |cons r1 r2=>cases r2;exact⟨_,rfl,r1⟩
theorem Dc{x y:V}{us:List Value}(r:Vals [x,y] us):∃u w',us=[u,w']∧RelV x u∧RelV y w':=by
 cases r with
 |cons r1 r2=>
  cases r2 with
  |cons r3 r4=>cases r4;exact⟨_,_,rfl,r1,r3⟩
theorem oY(hc:X.calm=true):CallR X (.builtin "min") (fun xs H Q=>∃i j,xs=[.int i, .int j]∧Q (.int (if j<i then j else i)) H):=by
 intro pins s σ H xs us Q I r h
 obtain⟨i,j,rfl,q⟩:=h
 obtain⟨u,w',rfl,⟨t,rfl⟩,⟨t',rfl⟩⟩:=Dc r
 refine min_two_ints (I.ok.hd hc) fun h' tk k=>⟨_,H,I.kept k, ?_,q⟩
 by_cases hj:j<i
 · rw[if_pos hj,if_pos hj];exact⟨_,rfl⟩
 · rw[if_neg hj,if_neg hj];exact⟨_,rfl⟩
theorem vd:CallR X (.type "int") (fun xs H Q=>(∃i,xs=[.int i]∧Q (.int i) H)∨∃k,xs=[.bl k]∧Q (.int (if k then 1 else 0)) H):=by
 intro pins s σ H xs us Q I r h
 rcases h with⟨i,rfl,q⟩|⟨k,rfl,q⟩
 · obtain⟨u,rfl,t,rfl⟩:=mN r
   exact call_int_int ⟨.int i,H,I,⟨_,rfl⟩,q⟩
 · obtain⟨u,rfl,r1⟩:=mN r
   cases r1
   exact call_int_bool ⟨.int (if k then 1 else 0),H,I.tok _,⟨_,rfl⟩,q⟩
theorem pQ:CallR X (.type "str") (fun xs H Q=>∃i,xs=[.int i]∧i.natAbs.log2<1920∧Q (.str (toString i)) H):=by
 intro pins s σ H xs us Q I r h
 obtain⟨i,rfl,hz,q⟩:=h
 obtain⟨u,rfl,t,rfl⟩:=mN r
 exact PySem.P.str_of_int hz ⟨.str _,H,I.tok _,⟨_,rfl⟩,q⟩
end
structure ObjM(h:Heap)(x dx C:Addr)(mA:Str→Option Value):Prop where
 obj:h.get? x=some (W.instObj C dx)
 ns:h.Ns1 dx mA
 ne:dx≠x
theorem oZ{h:Heap}{dx:Addr}{mA:Str→Option Value}(n:h.Ns1 dx mA):∃od,h.get? dx=some od∧∀name,W.lookIn name od=some (mA name):=by
 obtain⟨o,es,ep,ho,hd,hk,_,hm⟩:=n
 refine⟨o,ho,fun name=> ?_⟩
 have e:=hm name
 unfold nsFind findBy at e
 rw[←Array.find?_toList] at e
 unfold W.lookIn
 rw[hd]
 dsimp only
 split
 · rename_i y q
   rw[q] at e
   exact congrArg some e
 · rename_i q
   rw[q] at e
   have a:es.toList.any (·.refKey)=false:=by
    rw[List.any_eq_false]
    intro y hy
    obtain⟨z,t,hkey⟩:=hk y (Array.mem_toList_iff.mp hy)
    simp[DictEntry.refKey,hkey]
   have a':¬es.toList.any (·.refKey)=true:=by rw[a];exact Bool.false_ne_true
   rw[if_neg a']
   exact congrArg some e
theorem ObjM.look{h:Heap}{x dx C:Addr}{mA:Str→Option Value}(I:ObjM h x dx C mA):∃od,W.InstAt h x (W.instObj C dx) C (some od)∧∀name,W.lookIn name od=some (mA name):=
 let⟨od,ho,hl⟩:=oZ I.ns
 ⟨od,⟨I.obj,rfl,rfl,ho⟩,hl⟩
section
variable{prog:Program}{w:World}{A:Around}{E:Value→Shared→Prop}{s:Shared}{K:W.Frag}{x dx C f:Addr}{mA:Str→Option Value}{name:Str}{v:Value}
theorem yZ{expr:Bool}{Q:Value→Shared→Prop}(X:K.In s.heap)(I:ObjM s.heap x dx C mA)(hg:W.plainGet K C name=true)(hh:W.hasDictIn K C=true)
 (ha:W.findIn K (.ref C) name=some none)(hv:mA name=some v)(hv':W.handedIn v=true)(h:Q v {s with toks:=s.toks+1}):
 wpAny (model prog w) A (getAttr (.ref x) name expr) Q E s:=by
 obtain⟨od,J,hl⟩:=I.look
 exact W.get_value X J (W.plainGet_of hg).1 (W.findObj_own hh ha rfl (by rw[hl,hv])) hv' h
theorem y0{ns:List Str}{Q:Unit→Shared→Prop}(X:K.In s.heap)(I:ObjM s.heap x dx C mA)
 (hs:W.findIn K (.ref C) "__setattr__"=some (some (.builtin "object.__setattr__")))(hp:W.plainOver K C=true)(ht:W.takerIn K C name=some none)(hh:W.hasDictIn K C=true)
 (hw:PySem.Within mA ns)(hsz:ns.length≤sizeLine)
 (h:∀h',ObjM h' x dx C (fun y=>if y=name then some v else mA y)→Heap.SameBut dx s.heap h'→Q () {s with heap:=h',toks:=s.toks+2}):
 wpAny (model prog w) A (setAttr (.ref x) name v) Q E s:=by
 obtain⟨od,J,hl⟩:=I.look
 refine W.set_plain X J hs (W.osa_open (s:={s with toks:=s.toks+1}) (r:=none) X J hp ht fun b=> ?_)
 obtain⟨cd,hc,hd'⟩:=W.any_some hh
 have hx:s.heap.get? x=some ⟨.ref C,some dx, .plain,#[]⟩:=I.obj
 refine wpAny_bind (wpAny_pure (wpAny_bind (wpAny_bind (wpAny_loadPart hx (wpAny_bind (W.Looks.here (s:={s with toks:=s.toks+1}) (W.looks_clsIn X hc) ?_))))))
 rw[hd']
 refine wpAny_pure (a:=some dx) (wpAny_bind (wpAny_pure (wpAny_bind ?_)))
 refine wpAny_nsSet1 (s:={s with toks:=s.toks+1}) I.ns fun h' hn2 hs2=> ?_
 obtain⟨oD,esD,epD,hoD,hdD,hcD⟩:=hn2.count (PySem.Within.cons name v hw)
 refine wpAny_bind (wpAny_lookBehind hoD (by rw[hdD];exact pastItsLine_dict (Nat.le_trans hcD (by rw[List.length_cons];omega))) ?_)
 exact wpAny_pure (h _ ⟨(hs2.2 _ (Ne.symm I.ne)).trans I.obj,hn2,I.ne⟩ hs2)
theorem vZ{R:Result→Shared→Prop}{vs:List Value}{kw:List (Str×Value)}(X:K.In s.heap)(hm:W.makesIn K C=true)
 (hi:W.findIn K (.ref C) "__init__"=some (some (.ref f)))(hf:W.typeIn K (.ref f)=some (.type "function"))
 (h:codeAny (model prog w) (A.under (.builtin "type.__call__" ⟨.ref C::vs,kw⟩)) (.call (.ref f) ⟨.ref (s.heap.objs.size+1)::vs,kw⟩) (W.InitBack (s.heap.objs.size+1) R)
  {s with heap:=(s.heap.push W.emptyDict).push (W.instObj C s.heap.objs.size)}):
 codeAny (model prog w) A (.call (.ref C) ⟨vs,kw⟩) R s:=by
 obtain⟨hh,g,d,t,os⟩:=s
 exact W.make_core (W.makes_of X hm) (W.looks_findIn X hi) (fun self=>W.bind_fn X self hf) (.inl rfl) h
end
def iB(f:Str)(v:V):List (Str×V)→List (Str×V)
 |[]=>[(f,v)]
 |(g,x)::r=>if g=f then(g,v)::r else(g,x)::iB f v r
theorem gC(f g:Str)(v:V):∀fs:List (Str×V),(iB f v fs).lookup g=if g=f then some v else fs.lookup g
 |[]=>by
  show List.lookup g [(f,v)]=_
  by_cases h:g=f
  · have hb:(g==f)=true:=beq_iff_eq.mpr h
    simp only[List.lookup,hb,if_pos h]
  · have hb:(g==f)=false:=beq_eq_false_iff_ne.mpr h
    simp only[List.lookup,hb,if_neg h]
 |(k,x)::r=>by
  have ih:=gC f g v r
  rw[show iB f v ((k,x)::r)=(if k=f then(k,v)::r else(k,x)::iB f v r) from rfl]
  by_cases hk:k=f
  · rw[if_pos hk]
    by_cases h:g=k
    · have hb:(g==k)=true:=beq_iff_eq.mpr h
      simp only[List.lookup,hb,if_pos (h.trans hk)]
    · have hb:(g==k)=false:=beq_eq_false_iff_ne.mpr h
      simp only[List.lookup,hb,if_neg (fun e:g=f=>h (e.trans hk.symm))]
  · rw[if_neg hk]
    by_cases h:g=k
    · have hb:(g==k)=true:=beq_iff_eq.mpr h
      simp only[List.lookup,hb,if_neg (fun e:g=f=>hk (h.symm.trans e))]
    · have hb:(g==k)=false:=beq_eq_false_iff_ne.mpr h
      simp only[List.lookup,hb]
      exact ih
theorem iY(f:Str)(v:V):∀fs:List (Str×V),f∈(iB f v fs).map (·.1)∧∀g,g∈fs.map (·.1)→g∈(iB f v fs).map (·.1)
 |[]=>⟨by simp[iB],fun g h=>by simp at h⟩
 |(k,x)::r=>by
  obtain⟨i1,i2⟩:=iY f v r
  rw[show iB f v ((k,x)::r)=(if k=f then(k,v)::r else(k,x)::iB f v r) from rfl]
  by_cases hk:k=f
  · rw[if_pos hk]
    subst hk
    exact⟨by simp,fun g h=>by simpa using h⟩
  · rw[if_neg hk]
    refine⟨?_,fun g h=> ?_⟩
    · rw[List.map_cons]
      exact List.mem_cons_of_mem _ i1
    · rw[List.map_cons] at h ⊢
      rcases List.mem_cons.mp h with e|e
      · exact List.mem_cons.mpr (.inl e)
      · exact List.mem_cons_of_mem _ (i2 g e)
theorem jC(f:Str)(v:V):∀fs:List (Str×V),(iB f v fs).length≤fs.length+1
 |[]=>by simp[iB]
 |(k,x)::r=>by
  have ih:=jC f v r
  rw[show iB f v ((k,x)::r)=(if k=f then(k,v)::r else(k,x)::iB f v r) from rfl]
  by_cases hk:k=f
  · rw[if_pos hk,List.length_cons,List.length_cons];omega
  · rw[if_neg hk,List.length_cons,List.length_cons];omega
theorem RelO.some_of{v:V}{o:Option Value}(r:RelO (some v) o):∃u,o=some u∧RelV v u:=by
 cases o with
 |none=>exact(show False from r).elim
 |some u=>exact⟨u,rfl,r⟩
theorem pb{v:V}{u:Value}(r:RelV v u):W.handedIn u=true:=by
 cases v with
 |non=>cases (show u=Value.none from r);rfl
 |bl b=>cases (show u=Value.bool b from r);rfl
 |int i=>obtain⟨t,e⟩:=(show ∃t,u=Value.int i t from r);cases e;rfl
 |str x=>obtain⟨t,e⟩:=(show ∃t,u=Value.str x t from r);cases e;rfl
 |byt b=>obtain⟨t,e⟩:=(show ∃t,u=Value.bytes b t from r);cases e;rfl
 |flt b=>obtain⟨t,e⟩:=(show ∃t,u=Value.float b t from r);cases e;rfl
 |ref a=>cases (show u=Value.ref a from r);rfl
 |ty n=>cases (show u=Value.type n from r);rfl
section
variable{P:Program}{w:World}{H H':Hp}{h h':Heap}{a C dx:Addr}{fs fs':List (Str×V)}
theorem pR(hok:HOk P w H h)(e:H a=some (.ins C dx fs)):∃mA,ObjM h a dx C mA∧(∀f,RelO (fs.lookup f) (mA f))∧PySem.Within mA (fs.map (·.1))∧fs.length≤1000∧H dx=some (.own a):=by
 obtain⟨d,z,ne,ob,mA,n,r,q⟩:=(show ObjOk P w H h a (.ins C dx fs) from hok a _ e)
 exact⟨mA,⟨ob,n,ne⟩,r,q,z,d⟩
end
structure Cls(K:W.Frag)(C:Addr):Prop where
 pg:W.plainGet K C Str.empty=true
 hd:W.hasDictIn K C=true
 po:W.plainOver K C=true
 sa:W.findIn K (.ref C) "__setattr__"=some (some (.builtin "object.__setattr__"))
theorem Cls.get{K:W.Frag}{C:Addr}(c:Cls K C)(f:Str):W.plainGet K C f=true:=c.pg
def NoAttr(K:W.Frag)(C:Addr)(f:Str):Prop:=W.findIn K (.ref C) f=some none
theorem NoAttr.taker{K:W.Frag}{C:Addr}{f:Str}(n:NoAttr K C f):W.takerIn K C f=some none:=by
 unfold W.takerIn
 rw[show W.findIn K (.ref C) f=some none from n]
 rfl
section
variable{X:Cx}{pins:List (Addr×Obj)}{σ:St}{H:Hp}{s:Shared}{a C dx:Addr}{fs:List (Str×V)}{f:Str}{v:V}{A:Around}{E:Value→Shared→Prop}
theorem sy{b:Bool}{Q:Value→Shared→Prop}(I:Inv X pins σ H s)(e:H a=some (.ins C dx fs))(c:Cls X.K C)(n:NoAttr X.K C f)(l:fs.lookup f=some v)
 (h:∀u s',Inv X pins σ H s'→RelV v u→Q u s'):wpAny (model X.prog X.w) A (getAttr (.ref a) f b) Q E s:=by
 obtain⟨mA,O,r,_,_,_⟩:=pR I.hok e
 obtain⟨u,hu,ru⟩:=RelO.some_of (v:=v) (o:=mA f) (by rw[←l];exact r f)
 exact yZ I.kIn O (c.get f) c.hd n hu (pb ru) (h u _ (I.tok _) ru)
theorem sA{y:V}{u:Value}{Q:Unit→Shared→Prop}(I:Inv X pins σ H s)(e:H a=some (.ins C dx fs))(c:Cls X.K C)(n:NoAttr X.K C f)(hl:fs.length<1000)(ry:RelV y u)
 (h:∀s',Inv X pins σ (upd H a (.ins C dx (iB f y fs))) s'→Q () s'):wpAny (model X.prog X.w) A (setAttr (.ref a) f u) Q E s:=by
 obtain⟨mA,O,r,wi,_,ho⟩:=pR I.hok e
 have hz:(fs.map (·.1)).length≤sizeLine:=by rw[List.length_map,sizeLine_eq];omega
 refine y0 I.kIn O c.sa c.po n.taker c.hd wi hz fun h' O' sb=>h _ ?_
 have hd:∃o,h'.get? dx=some o:=let⟨o,_,_,e',_⟩:=O'.ns;⟨o,e'⟩
 refine I.write (x:=a) (e:=dx) (by rw[e];exact True.intro) (.inr ho) (fun b q hb z=>(sb.2 b hb).trans z) hd ?_
 refine⟨by rw[aJ O.ne];exact ho, ?_,O.ne,O'.obj,_,O'.ns,fun g=> ?_,fun g hg=> ?_⟩
 · have:=jC f y fs;omega
 · show RelO ((iB f y fs).lookup g) (if g=f then some u else mA g)
   rw[gC]
   by_cases q:g=f
   · rw[if_pos q,if_pos q];exact ry
   · rw[if_neg q,if_neg q];exact r g
 · by_cases q:g=f
   · rw[q];exact(iY f y fs).1
   · refine(iY f y fs).2 g (wi g fun z=>hg ?_)
     show (if g=f then some u else mA g)=none
     rw[if_neg q];exact z
theorem Inv.made(I:Inv X pins σ H s):Inv X pins σ (upd (upd H s.heap.objs.size (.own (s.heap.objs.size+1))) (s.heap.objs.size+1) (.ins C s.heap.objs.size []))
 {s with heap:=(s.heap.push W.emptyDict).push (W.instObj C s.heap.objs.size)}:=by
 have e1:(s.heap.push W.emptyDict).get? s.heap.objs.size=some W.emptyDict:=Heap.get?_push_size s.heap rfl
 have e2:((s.heap.push W.emptyDict).push (W.instObj C s.heap.objs.size)).get? (s.heap.objs.size+1)=some (W.instObj C s.heap.objs.size):=by
  have:=Heap.get?_push_size (s.heap.push W.emptyDict) (o:=W.instObj C s.heap.objs.size) rfl
  rwa [Heap.size_push] at this
 have e3:(s.heap.push W.emptyDict).Ns s.heap.objs.size (fun _=>none):=⟨W.emptyDict,#[],_,e1,rfl,(fun e he=>absurd he (by simp)),fun _=>rfl⟩
 have I1:=I.laid (a:=s.heap.objs.size) (o:= .own (s.heap.objs.size+1)) (h':=s.heap.push W.emptyDict) (t':=s.toks) (fun b u q=>Heap.get?_push_of_some _ q) (Nat.le_refl _) ⟨_,e1⟩
 refine I1.laid (a:=s.heap.objs.size+1) (o:= .ins C s.heap.objs.size []) (t':=s.toks) (fun b u q=>Heap.get?_push_of_some _ q) (Nat.le_of_eq (Heap.size_push _ _)) ?_
 have ne:s.heap.objs.size≠s.heap.objs.size+1:=Nat.ne_of_lt (Nat.lt_succ_self _)
 refine⟨by rw[aJ ne,aI],Nat.zero_le _,ne,e2,fun _=>none,(Heap.Ns1.of_empty e3).at fun o q=>Heap.get?_push_of_some _ q,fun _=>True.intro,fun y hy=>absurd rfl hy⟩
theorem tZ{prog:Program}{w:World}{env:Env}{e:Expr}{f:Str}{pos:Pos}{s:Shared}{Q:Value→Shared→Prop}(hb:attributeBase e f env (eval e env)=eval e env)
 (h:wpAny (model prog w) A (eval e env) (fun o s₁=>wpAny (model prog w) A (getAttr o f true) Q E s₁) E s):wpAny (model prog w) A (eval (.Attribute e f pos) env) Q E s:=
 Attribute_any_ h (by rw[arm_eval_Attribute,hb])
end
def Bo(K:W.Frag)(ta:TE)(f:Str):TE:=fun σ H Q=>ta σ H fun x H1=>∃a C dx fs v,x= .ref a∧H1 a=some (.ins C dx fs)∧Cls K C∧NoAttr K C f∧fs.lookup f=some v∧Q v H1
def Dd(K:W.Frag)(ta tv:TE)(f:Str):TS:=fun D σ H=>tv σ H fun y H1=>ta σ H1 fun x H2=>∃a C dx fs,x= .ref a∧H2 a=some (.ins C dx fs)∧Cls K C∧NoAttr K C f∧fs.length<1000∧
 D.nx σ (upd H2 a (.ins C dx (iB f y fs)))
section
variable{X:Cx}{o e value:Expr}{f:Str}{pos pos' tpos:Pos}{ta tv:TE}
theorem Bp(he:PE X e ta)(hb:attributeBase e f X.env (eval e X.env)=eval e X.env):PE X (.Attribute e f pos) (Bo X.K ta f):=by
 intro pins s σ H Q I h
 refine tZ hb (thn (he pins s σ H _ I h) fun u s1 ⟨x,H1,I1,rx,a,C,dx,fs,v,ex,ea,c,n,l,q⟩=> ?_)
 subst ex
 obtain rfl:u=Value.ref a:=rx
 exact sy I1 ea c n l fun u' s2 I2 ru=>⟨v,H1,I2,ru,q⟩
theorem sB(ha:PE X o ta)(hv:PE X value tv)(hs:swapsWith value (some (.Attribute o f pos')) pos.line X.env=pure false):PS X (.Assign [.Attribute o f pos'] value pos) (Dd X.K ta tv f):=by
 intro pins s σ H D I h
 refine plainObj_wpAny_Assign_Attribute (thn (hv pins s σ H _ I h) fun u s1 ⟨y,H1,I1,ry,q⟩=>thn (ha pins s1 σ H1 _ I1 q) fun ov s2 ⟨x,H2,I2,rx,a,C,dx,fs,ex,ea,c,n,l,q2⟩=> ?_) hs
 subst ex
 obtain rfl:ov=Value.ref a:=rx
 exact sA I2 ea c n l ry fun s3 I3=>⟨σ,_,I3,q2⟩
end
section
variable{X:Cx}{pins:List (Addr×Obj)}{σ:St}{H:Hp}{s:Shared}{A:Around}{E:Value→Shared→Prop}{Q:Value→Shared→Prop}{c:Value}{b:Bool}
inductive TyOf(K:W.Frag)(H:Hp):V→Value→Prop where
 |non:TyOf K H .non (.type "NoneType")
 |bl (x:Bool):TyOf K H (.bl x) (.type "bool")
 |int (i:Int):TyOf K H (.int i) (.type "int")
 |str (x:Str):TyOf K H (.str x) (.type "str")
 |flt (x:UInt64):TyOf K H (.flt x) (.type "float")
 |lst {a:Addr} {xs:List V} (e:H a=some (.lst xs)):TyOf K H (.ref a) (.type "list")
 |frz {a:Addr} {o:Obj} {xs:List V} (e:H a=some (.frz o (.lst xs))):TyOf K H (.ref a) (.type "list")
 |tup {a:Addr} {xs:List V} (e:H a=some (.tup xs)):TyOf K H (.ref a) (.type "tuple")
 |dK {a:Addr} {kvs:List (Key×V)} (e:H a=some (.dK kvs)):TyOf K H (.ref a) (.type "dict")
 |dT {a:Addr} {kvs:List (List Key×V)} (e:H a=some (.dT kvs)):TyOf K H (.ref a) (.type "dict")
 |ins {a C dx:Addr} {fs:List (Str×V)} (e:H a=some (.ins C dx fs)) (cl:Cls K C) (ha:W.findIn K (.ref C) "__class__"=some (some (.builtin "object.__class__")))
  (hn:W.specialIn K (.builtin "object.__class__") "__get__"=some (some (.builtin "getset_descriptor.__get__"))) (htk:W.takesIn K (.builtin "object.__class__")=some true)
  (hm:W.mroIn K C (.type "object")=some true):TyOf K H (.ref a) (.ref C)
theorem ve{x:V}{u t:Value}(I:Inv X pins σ H s)(rx:RelV x u)(ty:TyOf X.K H x t)(e:W.kitOne X.K t c=some b)(h:∀tk,Q (.bool b) {s with toks:=tk}):
 wpAny (model X.prog X.w) A (call (.builtin "isinstance") [u,c]) Q E s:=by
 cases ty with
 |non=>cases (show u=Value.none from rx);exact W.kia_one W.kitx_none I.kIn True.intro e (fun z=>nomatch z) h
 |bl y=>cases (show u=Value.bool y from rx);exact W.kia_one W.kitx_bool I.kIn True.intro e (fun z=>nomatch z) h
 |int i=>obtain⟨t,q⟩:=(show ∃t,u=Value.int i t from rx);cases q;exact W.kia_one W.kitx_int I.kIn True.intro e (fun z=>nomatch z) h
 |str y=>obtain⟨t,q⟩:=(show ∃t,u=Value.str y t from rx);cases q;exact W.kia_one W.kitx_str I.kIn True.intro e (fun z=>nomatch z) h
 |flt y=>obtain⟨t,q⟩:=(show ∃t,u=Value.float y t from rx);cases q;exact W.kia_one W.kitx_float I.kIn True.intro e (fun z=>nomatch z) h
 | @lst a xs ea=>
   cases (show u=Value.ref a from rx)
   obtain⟨_,_,n,_,h1⟩:=(show ObjOk X.prog X.w H s.heap a (.lst xs) from I.hok a _ ea)
   exact W.kia_one W.kitx_list I.kIn ⟨_,h1,rfl⟩ e (fun z=>nomatch z) h
 | @frz a ob xs ea=>
   cases (show u=Value.ref a from rx)
   obtain⟨_,_,_,n,_,h1⟩:=(show ObjOk X.prog X.w H s.heap a (.frz ob (.lst xs)) from I.hok a _ ea)
   exact W.kia_one W.kitx_list I.kIn ⟨_,h1,rfl⟩ e (fun z=>nomatch z) h
 | @tup a xs ea=>
   cases (show u=Value.ref a from rx)
   obtain⟨_,_,_,p⟩:=(show ObjOk X.prog X.w H s.heap a (.tup xs) from I.hok a _ ea)
   obtain⟨o,h1,h2,_⟩:=p
   exact W.kia_one W.kitx_tuple I.kIn ⟨o,h1,h2⟩ e (fun z=>nomatch z) h
 | @dK a kvs ea=>
   cases (show u=Value.ref a from rx)
   obtain⟨_,_,vs,_,p⟩:=(show ObjOk X.prog X.w H s.heap a (.dK kvs) from I.hok a _ ea)
   obtain⟨o,es,ep,h1,h2,_⟩:=p
   exact W.kia_one W.kitx_dict I.kIn ⟨o,h1,h2.1⟩ e (fun z=>nomatch z) h
 | @dT a kvs ea=>
   cases (show u=Value.ref a from rx)
   obtain⟨_,_,xs,_,o,es,ep,h1,h2,_⟩:=(show ObjOk X.prog X.w H s.heap a (.dT kvs) from I.hok a _ ea)
   exact W.kia_one W.kitx_dict I.kIn ⟨o,h1,h2.1⟩ e (fun z=>nomatch z) h
 | @ins a C dx fs ea cl ha hn htk hm=>
   cases (show u=Value.ref a from rx)
   obtain⟨mA,O,_⟩:=pR I.hok ea
   obtain⟨od,J,_⟩:=O.look
   exact W.kia_one (W.kitx_own (cl.get _) cl.hd ha hn htk hm) I.kIn J e (fun z=>nomatch z) h
end
structure Room(k:Nat)(A:Around):Prop where
 hd:A.handled=none
 dp:A.depth+3*k+5<recursionLimit
 un:A.units+16*k+200<cLine
theorem Room.mono{j k:Nat}{A:Around}(r:Room k A)(h:j≤k):Room j A:=⟨r.hd,by have:=r.dp;omega,by have:=r.un;omega⟩
theorem Room.deeper{k:Nat}{A:Around}(r:Room (k+1) A)(env:Env):Room k (A.deeper env):=
 ⟨r.hd,by have:=r.dp;show A.depth+1+3*k+5<_;omega,by have:=r.un;show A.units+3+16*k+200<_;omega⟩
theorem sC{A:Around}{C:Addr}{us:List Value}{kw:List (Str×Value)}:(A.under (.builtin "type.__call__" ⟨.ref C::us,kw⟩)).depth=A.depth+1:=by
 first|rfl|simp[Around.under,Code.weight,Code.isCreation,Code.isGuard,Code.isCaller,Code.frames,Code.isFrame,guardIds]
theorem sD{A:Around}{C:Addr}{us:List Value}{kw:List (Str×Value)}:(A.under (.builtin "type.__call__" ⟨.ref C::us,kw⟩)).units=A.units+1:=by
 first|rfl|simp[Around.under,Code.cUnits,Code.frames,Code.isFrame]
theorem Room.make{k:Nat}{A:Around}(r:Room (k+1) A)(C:Addr)(us:List Value)(kw:List (Str×Value)):Room k (A.under (.builtin "type.__call__" ⟨.ref C::us,kw⟩)):=
 ⟨r.hd,by have:=r.dp;rw[sC];omega,by have:=r.un;rw[sD];omega⟩
theorem Room.depth{k:Nat}{A:Around}(r:Room k A):A.depth<recursionLimit:=by have:=r.dp;omega
theorem Room.units{k:Nat}{A:Around}(r:Room k A):A.units+64<cLine:=by have:=r.un;omega
def iC:TA:=fun _ H Q=>Q [] H
def bO(ta:TE)(tr:TA):TA:=fun σ H Q=>ta σ H fun x H1=>tr σ H1 fun xs H2=>Q (x::xs) H2
section
variable{X:Cx}{e:Expr}{es:List Expr}{te:TE}{t:TA}{pos:Pos}
theorem ai:PA X [] iC:=fun _ _ _ _ H Q I h=>Calls.spliced_nil ⟨[],H,I, .nil,h⟩
theorem ad(ha:PE X e te)(hr:PA X es t)(hs:starEach (e::es) X.env=(false,eval e X.env)::starEach es X.env:=by rfl):PA X (e::es) (bO te t):=by
 intro pos pins s σ H Q I h
 rw[hs]
 show wpAny _ _ (spliced ((false,eval e X.env)::backTo pos (starEach es X.env))) _ _ s
 refine Calls.spliced_cons (thn (ha pins s σ H _ I h) fun u s1 ⟨x,H1,I1,r1,q1⟩=> ?_)
 exact thn (hr pos pins s1 σ H1 _ I1 q1) fun us s2 ⟨xs,H2,I2,r2,q2⟩=>⟨x::xs,H2,I2, .cons r1 r2,q2⟩
def vf(t:TA):TE:=fun σ H Q=>t σ H fun xs H1=>xs.length≤sizeLine∧∀p,H1 p=none→Q (.ref p) (upd H1 p (.tup xs))
def v3(t:TA):TE:=fun σ H Q=>t σ H fun xs H1=>xs.length≤sizeLine∧∀p,H1 p=none→Q (.ref p) (upd H1 p (.lst xs))
theorem bA{x1}(h:PA X es t):PE X (.Tuple es x1 pos) (vf t):=by
 intro pins s σ H Q I hq
 refine wpAny_Tuple_spliced (thn (h pos pins s σ H _ I hq) fun us s1 ⟨xs,H1,I1,r,z,q⟩=>⟨by rw[←r.length];exact z, ?_⟩)
 have hf:H1 s1.heap.objs.size=none:=I1.hok.fresh (Nat.le_refl _)
 refine⟨.ref s1.heap.objs.size,upd H1 s1.heap.objs.size (.tup xs),I1.laid (t':=s1.toks) (fun b u e=>Heap.get?_push_of_some _ e) (Nat.le_refl _) ?_,rfl,q _ hf⟩
 exact⟨z,us,r,⟨_,Heap.get?_push_size _ rfl,rfl,_,rfl⟩⟩
theorem aX(h:PA X es t):PE X (.List es pos) (v3 t):=by
 intro pins s σ H Q I hq
 refine wpAny_List_spliced (thn (h pos pins s σ H _ I hq) fun us s1 ⟨xs,H1,I1,r,z,q⟩=>⟨by rw[←r.length];exact z, ?_⟩)
 have hf:H1 s1.heap.objs.size=none:=I1.hok.fresh (Nat.le_refl _)
 refine⟨.ref s1.heap.objs.size,upd H1 s1.heap.objs.size (.lst xs),I1.laid (t':=s1.toks) (fun b u e=>Heap.get?_push_of_some _ e) (Nat.le_refl _) ?_,rfl,q _ hf⟩
 exact⟨z,us,0,r,Heap.get?_push_size _ rfl⟩
end
abbrev Sp:=List V→Hp→VK→XK→Prop
abbrev CXT:=List Env→Hp→Shared→XK→Value→Shared→Prop
structure Env0(P:Program)(w:World)(K:W.Frag)(mg:Str→Option Value)(base:Heap)(A:Around)(outer:List Env)(s:Shared)(H:Hp):Prop where
 frames:A.frames=some outer
 mod:Mod K mg base
 bs:∀b o,base.get? b=some o→s.heap.get? b=some o∧H b=none
 bsz:base.objs.size≤s.heap.objs.size
 funs:s.heap.FunFrames base outer
 frf:∀b∈frs outer,H b=none
 hok:HOk P w H s.heap
 bare:AllBare s.gens
def CE(outer:List Env)(P:Program)(w:World)(H:Hp)(s:Shared)(Q:VK)(u:Value)(s':Shared):Prop:=
 ∃v H',s'.os=s.os∧AllBare s'.gens∧Un (frs outer) [] H H' s.heap s'.heap∧HOk P w H' s'.heap∧RelV v u∧Q v H'
def CR(CX:CXT)(outer:List Env)(P:Program)(w:World)(H:Hp)(s:Shared)(Q:VK)(E:XK)(r:Result)(s':Shared):Prop:=
 match r with
 | .ok (.ret u)=>CE outer P w H s Q u s'
 | .ok _=>False
 | .error e=>CX outer H s E e s'
structure FnOk(P:Program)(w:World)(K:W.Frag)(mg:Str→Option Value)(base:Heap)(CX:CXT)(k:Nat)(f:Addr)(fd:FuncData)(ps:List Str)(sp:Sp):Prop where
 len:∀vs H Q E,sp vs H Q E→vs.length=ps.length
 run:∀(A:Around) (outer:List Env) (s:Shared) (H:Hp) (args:Args) (us:List Value) (vs:List V) (Q:VK) (E:XK),Room k A→Env0 P w K mg base A outer s H→BindsTo s fd args (ps.zip us)→Vals vs us→sp vs H Q E→
  codeAny (model P w) A (.call (.ref f) args) (CR CX outer P w H s Q E) s
theorem Env0.make{P:Program}{w:World}{K:W.Frag}{mg:Str→Option Value}{base:Heap}{A:Around}{outer:List Env}{s:Shared}{H:Hp}(e:Env0 P w K mg base A outer s H)(C:Addr)(us:List Value)(kw:List (Str×Value)):
 Env0 P w K mg base (A.under (.builtin "type.__call__" ⟨.ref C::us,kw⟩)) outer s H:=⟨by first|exact e.frames|(simpa [Around.under,Code.envs,Code.isFrame,pushEnvs] using e.frames),e.mod,e.bs,e.bsz,e.funs,e.frf,e.hok,e.bare⟩
section
variable{X:Cx}{pins:List (Addr×Obj)}{σ:St}{H:Hp}{s s':Shared}
theorem Inv.env0(I:Inv X pins σ H s):Env0 X.prog X.w X.K X.mg X.base X.A X.stack s H:=
 ⟨I.ok.frames,I.ok.mod,I.bs,Nat.le_trans I.ok.bsz I.sz,I.stack,I.stkFree,I.hok,I.bare⟩
theorem Inv.after{Q:VK}{u:Value}(I:Inv X pins σ H s)(h:CE X.stack X.prog X.w H s Q u s'):EP X pins σ Q u s':=by
 obtain⟨v,H',os,bare,un,hok,r,q⟩:=h
 obtain⟨hh,g,d,t,os'⟩:=s'
 obtain rfl:os'=s.os:=os
 exact⟨v,H',I.call (h':=hh) (g':=g) (d':=d) (t':=t) (ch:=[]) un hok bare (fun b z=>absurd z (by simp)),r,q⟩
end
def jy(sp:Sp)(dvs:List V)(E:XK)(t:TA):TE:=fun σ H Q=>t σ H fun vs H1=>sp (vs++dvs) H1 Q E
def v4(C:Addr)(sp:Sp)(dvs:List V)(E:XK)(t:TA):TE:=fun σ H Q=>t σ H fun vs H1=>∀x dx,H1 x=none→H1 dx=none→dx≠x→
 sp (.ref x::(vs++dvs)) (upd (upd H1 dx (.own x)) x (.ins C dx [])) (fun v H2=>v= .non∧Q (.ref x) H2) E
def Binds(K:W.Frag)(fd:FuncData)(ps:List Str)(ds:List Value):Prop:=
 ∀(s:Shared) (us:List Value),K.In s.heap→(us++ds).length=ps.length→BindsTo s fd ⟨us,[]⟩ (ps.zip (us++ds))
theorem Binds.all{K:W.Frag}{fd:FuncData}{ps:List Str}(h:∀us:List Value,us.length=ps.length→bindArgs fd ⟨us,[]⟩=pure (ps.zip us)):Binds K fd ps []:=fun s us _ hl=>by
 rw[List.append_nil] at hl ⊢
 exact .of_eq (h us hl)
def kq(CX:CXT)(X:Cx)(E:XK):Prop:=∀(pins:List (Addr×Obj)) (σ:St) (H:Hp) (s:Shared) (e:Value) (s':Shared),Inv X pins σ H s→CX X.stack H s E e s'→X.xe e s'
section
variable{X:Cx}{CX:CXT}{k:Nat}{f C:Addr}{fd:FuncData}{ps:List Str}{sp:Sp}{dvs:List V}{ds:List Value}{E:XK}{x m:Str}{p pos apos:Pos}{e o:Expr}{es:List Expr}{ta:TE}{t:TA}
theorem Bq{pins:List (Addr×Obj)}{σ:St}{H:Hp}{s:Shared}{Q:VK}{us:List Value}{vs:List V}(F:FnOk X.prog X.w X.K X.mg X.base CX k f fd ps sp)(hr:Room k X.A)(hb:Binds X.K fd ps ds)(hd:Vals dvs ds)(hx:kq CX X E)
 (I:Inv X pins σ H s)(r:Vals vs us)(h:sp (vs++dvs) H Q E):wpAny (model X.prog X.w) X.A (call (.ref f) us) (EP X pins σ Q) X.xe s:=by
 have r2:Vals (vs++dvs) (us++ds):=r.append hd
 have hl:(us++ds).length=ps.length:=by rw[←r2.length];exact F.len _ _ _ _ h
 refine wpAny_call (codeAny_mono (F.run X.A X.stack s H ⟨us,[]⟩ (us++ds) (vs++dvs) Q E hr I.env0 (hb s us I.kIn hl) r2 h) fun r s' hq=> ?_)
 cases r with
 |error e=>exact hx pins σ H s e s' I hq
 |ok fl=>
  cases fl with
  |ret u=>exact I.after hq
  |next=>exact False.elim hq
  |brk=>exact False.elim hq
  |cont=>exact False.elim hq
theorem t4(F:FnOk X.prog X.w X.K X.mg X.base CX k f fd ps sp)(hr:Room k X.A)(hg:Gl X x)(hm:X.mg x=some (.ref f))(hk:W.keepIn X.K (.ref f)=true)(hb:Binds X.K fd ps ds)(hd:Vals dvs ds)(hx:kq CX X E)
 (ha:PA X (e::es) t)(hdb:(x==("__debug__":Str))=false:=by decide)(he:starEach (e::es) X.env=(false,eval e X.env)::starEach es X.env:=by rfl)(hpl:(backTo pos (starEach es X.env)).any (·.1)=false:=by rfl):
 PE X (.Call (.Name x p) (e::es) [] pos) (jy sp dvs E t):=by
 intro pins s σ H Q I h
 refine wpAny_Call_Name_kw (jW I hg hm ?_ hdb)
 refine W.callWith_K (h₀:=X.base) I.ok.mod.kin hk (thn (ha pos pins s σ H _ I h) fun us s1 ⟨vs,H1,I1,r,q⟩=>⟨I1.kIn, ?_⟩) he hpl
 exact Bq F hr hb hd hx I1 r q
structure Mk(K:W.Frag)(C f:Addr):Prop where
 makes:W.makesIn K C=true
 init:W.findIn K (.ref C) "__init__"=some (some (.ref f))
 fn:W.isFn K (.ref f)=true
 kp:W.keepIn K (.ref C)=true
theorem v5{pins:List (Addr×Obj)}{σ:St}{H:Hp}{s:Shared}{Q:VK}{us:List Value}{vs:List V}(M:Mk X.K C f)(F:FnOk X.prog X.w X.K X.mg X.base CX k f fd ps sp)(hr:Room (k+1) X.A)(hb:Binds X.K fd ps ds)(hd:Vals dvs ds)
 (hx:kq CX X E)(I:Inv X pins σ H s)(r:Vals vs us)
 (h:∀x dx,H x=none→H dx=none→dx≠x→sp (.ref x::(vs++dvs)) (upd (upd H dx (.own x)) x (.ins C dx [])) (fun v H2=>v= .non∧Q (.ref x) H2) E):
 wpAny (model X.prog X.w) X.A (call (.ref C) us) (EP X pins σ Q) X.xe s:=by
 have hq:=h (s.heap.objs.size+1) s.heap.objs.size (I.hok.fresh (Nat.le_succ _)) (I.hok.fresh (Nat.le_refl _)) (Nat.ne_of_lt (Nat.lt_succ_self _))
 have I2:=Inv.made (C:=C) I
 have r2:Vals (V.ref (s.heap.objs.size+1)::(vs++dvs)) (Value.ref (s.heap.objs.size+1)::(us++ds)):= .cons rfl (r.append hd)
 have hl:(Value.ref (s.heap.objs.size+1)::us++ds).length=ps.length:=by
  have e:=r2.length
  rw[F.len _ _ _ _ hq] at e
  exact e.symm
 refine wpAny_call (vZ (f:=f) I.kIn M.makes M.init (beq_iff_eq.mp M.fn) (codeAny_mono (F.run _ X.stack _ _ ⟨Value.ref (s.heap.objs.size+1)::us,[]⟩ (Value.ref (s.heap.objs.size+1)::(us++ds)) _ _ E (hr.make C us [])
  (I2.env0.make C us []) (hb _ (Value.ref (s.heap.objs.size+1)::us) I2.kIn hl) r2 hq) fun r s' hq'=> ?_))
 cases r with
 |error e=>exact hx pins σ _ _ e s' I2 hq'
 |ok fl=>
  cases fl with
  |ret u=>
   obtain⟨v,H',I3,rv,ev,q3⟩:=I2.after hq'
   subst ev
   exact⟨rv,⟨V.ref (s.heap.objs.size+1),H',I3,rfl,q3⟩⟩
  |next=>exact False.elim hq'
  |brk=>exact False.elim hq'
  |cont=>exact False.elim hq'
theorem y1(M:Mk X.K C f)(F:FnOk X.prog X.w X.K X.mg X.base CX k f fd ps sp)(hr:Room (k+1) X.A)(hg:Gl X x)(hm:X.mg x=some (.ref C))(hb:Binds X.K fd ps ds)(hd:Vals dvs ds)(hx:kq CX X E)
 (ha:PA X (e::es) t)(hdb:(x==("__debug__":Str))=false:=by decide)(he:starEach (e::es) X.env=(false,eval e X.env)::starEach es X.env:=by rfl)(hpl:(backTo pos (starEach es X.env)).any (·.1)=false:=by rfl):
 PE X (.Call (.Name x p) (e::es) [] pos) (v4 C sp dvs E t):=by
 intro pins s σ H Q I h
 refine wpAny_Call_Name_kw (jW I hg hm ?_ hdb)
 refine W.callWith_K (h₀:=X.base) I.ok.mod.kin M.kp (thn (ha pos pins s σ H _ I h) fun us s1 ⟨vs,H1,I1,r,q⟩=>⟨I1.kIn, ?_⟩) he hpl
 exact v5 M F hr hb hd hx I1 r q
end
section
variable{X:Cx}{CX:CXT}{k:Nat}{f C:Addr}{fd:FuncData}{ps ks:List Str}{sp:Sp}{E:XK}{x m:Str}{p pos apos kpos:Pos}{e o:Expr}{es:List Expr}{kws:List Keyword}{te ta:TE}{t tk:TA}{nm:Option Str}
variable{g:List Value→List Value→List Value}{gV:List V→List V→List V}
end
structure FnScope(N P:List Str)(sc:Scope):Prop where
 kind:sc.kind= .function
 co:sc.isCoroutine=false
 gen:sc.isGenerator=false
 nd:N.Nodup
 pre:N.take P.length=P
 par:∀x∈P,sc.names.lookup x=some .local∨sc.names.lookup x=some .cell
 nofree:∀y∈sc.names,y.2≠ .free
theorem pc{kindOf:Str→Option NameKind}{x:Str}:∀{binds:List (Str×Value)} {m:Str→Option Value},(∀v,(x,v)∉binds)→bindL kindOf binds m x=m x
 |[],_,_=>rfl
 |(n,v)::r,m,h=>by
  unfold bindL
  rw[pc fun w hw=>h w (List.mem_cons_of_mem _ hw)]
  split
  · have:x≠n:=by rintro rfl;exact h v List.mem_cons_self
    simp[this]
  · rfl
theorem pd{kindOf:Str→Option NameKind}{x:Str}:∀{binds:List (Str×Value)} {m:Str→Option Value},(∀v,(x,v)∉binds)→bindC kindOf binds m x=m x
 |[],_,_=>rfl
 |(n,v)::r,m,h=>by
  unfold bindC
  rw[pd fun w hw=>h w (List.mem_cons_of_mem _ hw)]
  split
  · rfl
  · have:x≠n:=by rintro rfl;exact h v List.mem_cons_self
    simp[this]
theorem pf{kindOf:Str→Option NameKind}{x:Str}{v:Value}:∀{P:List Str} {vs:List Value} {i:Nat} {m:Str→Option Value},P.Nodup→P[i]? =some x→vs[i]? =some v→kindOf x=some .local→
 bindL kindOf (P.zip vs) m x=some v
 |[],_,_,_,_,h,_,_=>by simp at h
 |_::_,[],_,_,_,_,h,_=>by simp at h
 |p::P,w::vs,0,m,nd,h1,h2,hk=>by
  simp at h1 h2;subst h1;subst h2
  show bindL kindOf ((p,w)::P.zip vs) m p=_
  unfold bindL
  rw[pc fun v hv=>(List.nodup_cons.mp nd).1 (List.of_mem_zip hv).1,if_pos hk]
  simp
 |p::P,w::vs,i+1,m,nd,h1,h2,hk=>by
  show bindL kindOf ((p,w)::P.zip vs) m x=_
  unfold bindL
  exact pf (i:=i) (List.nodup_cons.mp nd).2 (by simpa using h1) (by simpa using h2) hk
theorem ph{kindOf:Str→Option NameKind}{x:Str}{v:Value}:∀{P:List Str} {vs:List Value} {i:Nat} {m:Str→Option Value},P.Nodup→P[i]? =some x→vs[i]? =some v→kindOf x≠some .local→
 bindC kindOf (P.zip vs) m x=some v
 |[],_,_,_,_,h,_,_=>by simp at h
 |_::_,[],_,_,_,_,h,_=>by simp at h
 |p::P,w::vs,0,m,nd,h1,h2,hk=>by
  simp at h1 h2;subst h1;subst h2
  show bindC kindOf ((p,w)::P.zip vs) m p=_
  unfold bindC
  rw[pd fun v hv=>(List.nodup_cons.mp nd).1 (List.of_mem_zip hv).1,if_neg hk]
  simp
 |p::P,w::vs,i+1,m,nd,h1,h2,hk=>by
  show bindC kindOf ((p,w)::P.zip vs) m x=_
  unfold bindC
  exact ph (i:=i) (List.nodup_cons.mp nd).2 (by simpa using h1) (by simpa using h2) hk
def start(N:List Str)(vs:List V):St:=vs.map some++List.replicate (N.length-vs.length) none
def oH(CX:CXT)(P:Program)(w:World)(K:W.Frag)(mg:Str→Option Value)(base:Heap)(N:List Str)(qual:Str)(scope:Scope)(f:Addr)(cd:Value)(A:Around)(outer:List Env)(s:Shared)(H:Hp)(E:XK):Cx where
 prog:=P
 w:=w
 K:=K
 mg:=mg
 base:=base
 A:=A.deeper (envOfC qual scope s.heap.objs.size f cd)
 N:=N
 s₀:=s
 H₀:=H
 env:=envOfC qual scope s.heap.objs.size f cd
 outer:=outer
 stack:=envOfC qual scope s.heap.objs.size f cd::outer
 ex:=[]
 calm:=true
 fn:=fun _=>true
 pn:=[]
 xe:=fun e s'=>wpAny (model P w) (A.deeper (envOfC qual scope s.heap.objs.size f cd)) (leaving (envOfC qual scope s.heap.objs.size f cd) e) (fun _ s''=>CX outer H s E e s'') (fun e' s''=>CX outer H s E e' s'') s'
theorem ri{sc:Scope}{n:Nat}{x:Str}(h:sc.names.lookup x=some .cell):∃c,(cellsFrom n sc.names []).lookup x=some c:=by
 have q:=W.cellsFrom_some sc.names n [] (.inl h)
 exact Option.isSome_iff_exists.mp q
theorem vg{CX:CXT}{P:Program}{w:World}{K:W.Frag}{mg:Str→Option Value}{base:Heap}{N ps:List Str}{qual:Str}{scope:Scope}{f:Addr}{cd:Value}{A:Around}{outer:List Env}{s s1:Shared}{H:Hp}{E:XK}{us:List Value}{vs:List V}
 (S:FnScope N ps scope)(hd:A.handled=none)(e0:Env0 P w K mg base A outer s H)(hl:vs.length=ps.length)(r:Vals vs us)
 (x:InCallC s s.heap.objs.size (bindL (envOfC qual scope s.heap.objs.size f cd).kindOf (ps.zip us) fun _=>none) (cellsFrom (s.heap.objs.size+1) scope.names []) (bindC (envOfC qual scope s.heap.objs.size f cd).kindOf (ps.zip us) fun _=>none) s1):
 Inv (oH CX P w K mg base N qual scope f cd A outer s H E) [] (start N vs) H s1:=by
 have hpl:ps.length≤N.length:=by have:=congrArg List.length S.pre;rw[List.length_take] at this;omega
 obtain⟨h1,tk,rfl,hk⟩:=x.done
 have noA:∀b:Addr,b∉(oH CX P w K mg base N qual scope f cd A outer s H E).ex:=fun b z=>absurd (show b∈([]:List Addr) from z) (by simp)
 refine⟨⟨e0.mod,S.kind,rfl,rfl,Nat.le_refl _,fun y z c h1 h2=> ?_,fun y hy=> ?_,fun y c _ h=> ?_,fun _=>hd,Around.frames_deeper e0.frames, .inr ⟨rfl,rfl⟩,fun b z=>absurd z (noA b),e0.bs,e0.bsz,fun b _ _=>noA b,fun b z=>absurd z (noA b),e0.funs,e0.frf⟩,
  rfl,e0.bare,Un.kept hk,⟨_,x.toInCall.ns,fun i y v h1 h2 h3=> ?_⟩,fun y c h=>⟨_,x.cell y c h⟩,e0.hok.fresh (Nat.le_refl _),fun y c h=> ?_,fun p hp=>absurd (show p∈([]:List (Addr×Obj)) from hp) (by simp),e0.hok.kept hk, ?_⟩
 · exact name_of_addr x.apart (PySem.mem_of_lookup h1) (PySem.mem_of_lookup h2)
 · have hy:scope.names.lookup y=some .cell∨scope.names.lookup y=some .free:=hy
   rcases hy with hy|hy
   · exact ri hy
   · exact absurd rfl (S.nofree _ (PySem.mem_of_lookup hy))
 · exact Nat.le_of_lt (x.above y c (PySem.mem_of_lookup h))
 · have hi:i<vs.length:=by
    unfold start at h2
    by_cases hi:i<vs.length
    · exact hi
    · rw[List.getElem?_append_right (by simpa using hi)] at h2
      rw[List.getElem?_replicate] at h2
      split at h2<;>cases h2
   have ha:vs[i]? =some v:=by
    unfold start at h2
    rw[List.getElem?_append_left (by simpa using hi),List.getElem?_map] at h2
    cases e:vs[i]? with
    |none=>rw[e] at h2;cases h2
    |some a=>rw[e] at h2;cases h2;rfl
   obtain⟨u,hu,rv⟩:=r.get ha
   have hp:ps[i]? =some y:=by
    rw[←S.pre,List.getElem?_take_of_lt (by omega)];exact h1
   have ndP:ps.Nodup:=by rw[←S.pre];exact S.nd.sublist (List.take_sublist _ _)
   refine⟨u,rv, ?_⟩
   rcases S.par y (List.mem_of_getElem? hp) with k|k
   · exact .inl ⟨k,pf ndP hp hu k⟩
   · obtain⟨c,e⟩:=ri (n:=s.heap.objs.size+1) k
     refine .inr ⟨.inl k,c,e, ?_⟩
     have q:=x.cell y c e
     rw[ph ndP hp hu (by show scope.names.lookup y≠_;rw[k];decide)] at q
     exact q
 · exact e0.hok.fresh (Nat.le_of_lt (x.above y c (PySem.mem_of_lookup h)))
 · unfold start
   show _=N.length
   rw[List.length_append,List.length_map,List.length_replicate]
   omega
theorem v6{CX:CXT}{P:Program}{w:World}{K:W.Frag}{mg:Str→Option Value}{base:Heap}{k:Nat}{f:Addr}{name qual:Str}{params:Arguments}{body:List Stmt}{scope:Scope}{dV kV doc pm cdv ct oc:Value}{an od:Option Addr}
 {osl:Array (Option Value)}{N ps:List Str}{sp:Sp}(lk:K.lookup f=some ⟨oc,od, .func (W.fnOf name qual params body scope dV kV doc pm an cdv ct),osl⟩)(hcd:W.codeIn K cdv qual=true)(S:FnScope N ps scope)
 (len:∀vs H Q E,sp vs H Q E→vs.length=ps.length)
 (hbody:∀(A:Around) (outer:List Env) (s:Shared) (H:Hp) (vs:List V) (Q:VK) (E:XK),Room k (A.deeper (envOfC qual scope s.heap.objs.size f cdv))→sp vs H Q E→
  ∃t,PSs (oH CX P w K mg base N qual scope f cdv A outer s H E) body t∧t {nx:=fun _ H'=>Q .non H',rt:=Q} (start N vs) H):
 FnOk P w K mg base CX (k+1) f (W.fnOf name qual params body scope dV kV doc pm an cdv ct) ps sp:=by
 refine⟨len,fun A outer s H args us vs Q E hr e0 hb r hsp=> ?_⟩
 have hl:=len _ _ _ _ hsp
 have KX:K.In s.heap:=e0.mod.kin.keeps fun b o e=>(e0.bs b o e).1
 have lim:s.heap.NoLimit:=e0.mod.nolimit.keeps fun b o e=>(e0.bs b o e).1
 have hkind:∀y∈ps.zip us,scope.names.lookup y.1=some .local∨(scope.names.lookup y.1=some .cell∧((cellsFrom (s.heap.objs.size+1) scope.names []).lookup y.1).isSome=true):=fun⟨n,v⟩ hy=>by
  rcases S.par n (List.of_mem_zip hy).1 with q|q
  · exact .inl q
  · exact .inr ⟨q,W.cellsFrom_some _ _ _ (.inl q)⟩
 refine codeAny_call_function hr.depth (KX _ _ lk) rfl S.co S.gen rfl (W.codeRec_of KX hcd) (hb _ _ _ _ ?_)
 refine wpAny_newFunctionEnv_cells S.kind hkind fun env he s1 x=> ?_
 subst he
 refine⟨lim.keeps x.toInCall.keep,codeAny_func ?_⟩
 obtain⟨t,ht,hq⟩:=hbody A outer s H vs Q E (hr.deeper _) hsp
 have I:Inv (oH CX P w K mg base N qual scope f cdv A outer s H E) [] (start N vs) H s1:=vg S hr.hd e0 hl r x
 refine wpAny_mono (ht [] s1 (start N vs) H _ I hq) (fun fl s' hs=> ?_) fun e s' hs=>hs
 have fin:∀{σ':St} {H':Hp} {v:V} {u:Value},Inv (oH CX P w K mg base N qual scope f cdv A outer s H E) [] σ' H' s'→RelV v u→Q v H'→CE outer P w H s Q u s':=
  fun {σ' H' v u} J rv q=>⟨v,H',J.os,J.bare,J.base,J.hok,rv,q⟩
 cases fl with
 |ret u=>
  obtain⟨v,σ',H',J,rv,q⟩:=hs
  exact fin J rv q
 |next=>
  obtain⟨σ',H',J,q⟩:=hs
  exact fin (v:=V.non) (u:=Value.none) J rfl q
 |brk=>
  obtain⟨_,_,_,q⟩:=hs
  exact False.elim q
 |cont=>
  obtain⟨_,_,_,q⟩:=hs
  exact False.elim q
end L2
namespace L2
open PySem PySem.Spec PyProof.Rows
section
variable{X:Cx}{x:Str}{p pos:Pos}{e:Expr}{es:List Expr}{t:TA}{id T:String}{r:List V→Hp→VK→Prop}
def tCB(r:List V→Hp→VK→Prop)(t:TA):TE:=fun σ H Q=>t σ H fun vs H1=>r vs H1 Q
theorem aF(hc:CallR X (.builtin id) r)(hg:Gl X x)(hm:X.mg x=none)(hv:bootBuiltins x=some (.builtin id))(ha:PA X (e::es) t)(hn:x≠"__name__":=by decide)(hdb:(x==("__debug__":Str))=false:=by decide)
 (he:starEach (e::es) X.env=(false,eval e X.env)::starEach es X.env:=by rfl)(hpl:(backTo pos (starEach es X.env)).any (·.1)=false:=by rfl):PE X (.Call (.Name x p) (e::es) [] pos) (tCB r t):=by
 intro pins s σ H Q I h
 refine wpAny_Call_Name_kw (kn I hg hm hv ?_ hn hdb)
 exact PyProof.Rows.callWith_builtin1 (thn (ha pos pins s σ H _ I h) fun us s1 ⟨vs,H1,I1,r1,q1⟩=>hc pins s1 σ H1 vs us Q I1 r1 q1) he hpl
theorem bQ(hc:CallR X (.type T) r)(hg:Gl X x)(hm:X.mg x=none)(hv:bootBuiltins x=some (.type T))(ha:PA X (e::es) t)(hn:x≠"__name__":=by decide)(hdb:(x==("__debug__":Str))=false:=by decide)
 (he:starEach (e::es) X.env=(false,eval e X.env)::starEach es X.env:=by rfl)(hpl:(backTo pos (starEach es X.env)).any (·.1)=false:=by rfl):PE X (.Call (.Name x p) (e::es) [] pos) (tCB r t):=by
 intro pins s σ H Q I h
 refine wpAny_Call_Name_kw (kn I hg hm hv ?_ hn hdb)
 exact PyProof.Rows.callWith_type1 (thn (ha pos pins s σ H _ I h) fun us s1 ⟨vs,H1,I1,r1,q1⟩=>hc pins s1 σ H1 vs us Q I1 r1 q1) he hpl
end
end L2
namespace HT
open PySem PyProof.Rows
section
open PySem.SeqAt
open PySem.AutoSeq1 (wpAny_loadPart')
open PySem.MeetsSeq PySem.MeetsSeq2 PySem.MeetsSeq3
end
section
variable{prog:Program}{w:World}{A:Around}{E:Value→Shared→Prop}{s:Shared}
theorem cat_tup{t b:Addr}{vs ws:List Value}{Q:Value→Shared→Prop}(ht:IsTup s.heap t vs.toArray)(hb:IsTup s.heap b ws.toArray)(hv:vs≠[])
 (h1:ws=[]→Q (.ref t) s)(h2:ws≠[]→Q (.ref s.heap.objs.size) {s with heap:=s.heap.push {cls:= .type "tuple",data:= .seq (vs++ws).toArray}})
 (hsz:vs.length+ws.length≤sizeLine):wpAny (model prog w) A (binaryOp .Add (.ref t) (.ref b)) Q E s:=by
 obtain⟨⟨cls,dd,data,sl⟩,ho,hc,n,hd⟩:=id ht
 obtain⟨⟨cls2,dd2,data2,sl2⟩,ho2,hc2,n2,hd2⟩:=id hb
 simp only at hc hd hc2 hd2
 subst hc hd hc2 hd2
 have e:vs.toArray++ws.toArray=(vs++ws).toArray:=by simp
 by_cases hw:ws=[]
 · exact concat_meets ⟨_,ho,rfl⟩ ⟨_,ho2,rfl⟩ noFill_tuple_add seq_tuple_add PySem.F.slot_tuple_add PySem.F.entry_tuple_add (PySem.F.args_tuple_add_2 _ _)
    (tuple_addW1 t b vs.toArray ws.toArray n n2 dd dd2 sl sl2 (by simpa using hv) (by simp[hw])) ⟨ho,ho2,h1 hw⟩
 · refine concat_meets ⟨_,ho,rfl⟩ ⟨_,ho2,rfl⟩ noFill_tuple_add seq_tuple_add PySem.F.slot_tuple_add PySem.F.entry_tuple_add (PySem.F.args_tuple_add_2 _ _)
    (tuple_addW2 t b vs.toArray ws.toArray n n2 dd dd2 sl sl2 (by simpa using hv) (by simpa using hw) (by rw[List.size_toArray,List.size_toArray];exact hsz)) ⟨ho,ho2, ?_⟩
   rw[e]
   exact h2 hw
def sIx(n d:Nat):Option Int→Nat
 |none=>d
 |some v=>if v<0 then(v+(n:Int)).toNat else min v.toNat n
theorem sIx_none(n d:Nat):sIx n d none=d:=rfl
theorem sIx_nat(n d k:Nat):sIx n d (some (k:Int))=min k n:=by
 show (if(k:Int)<0 then((k:Int)+(n:Int)).toNat else min (k:Int).toNat n)=min k n
 rw[if_neg (by omega),Int.toNat_natCast]
theorem Br(n d:Nat)(hd:d≤n)(o:Option Int):sIx n d o≤n:=by
 cases o with
 |none=>exact hd
 |some v=>
  show (if v<0 then(v+(n:Int)).toNat else min v.toNat n)≤n
  by_cases hv:v<0
  · rw[if_pos hv];omega
  · rw[if_neg hv];exact Nat.min_le_right _ _
theorem t5(v:Int)(n d:Nat):(if v<0 then max (v+(n:Int)) 0 else min v (n:Int))=((sIx n d (some v):Nat):Int):=by
 show (if v<0 then max (v+(n:Int)) 0 else min v (n:Int))=(((if v<0 then(v+(n:Int)).toNat else min v.toNat n):Nat):Int)
 by_cases hv:v<0
 · simp only[if_pos hv];omega
 · simp only[if_neg hv];omega
theorem sE(lo hi:Option Int)(n:Nat):Builtin.Slice.sliceAdjust lo hi 1 (n:Int)=(((sIx n 0 lo:Nat):Int),((sIx n n hi:Nat):Int)):=by
 have h1:¬((1:Int)<0):=by omega
 unfold Builtin.Slice.sliceAdjust
 simp only[h1,if_false]
 refine Prod.ext ?_ ?_
 · cases lo with
   |none=>rfl
   |some v=>exact t5 v n 0
 · cases hi with
   |none=>rfl
   |some v=>exact t5 v n n
theorem sF(i j:Nat):Builtin.Slice.slicePlaces (i:Int) (j:Int) 1=j-i:=by
 unfold Builtin.Slice.slicePlaces
 have h1:(1:Int)>0:=by omega
 simp only[h1,if_true,Int.ediv_one]
 split<;>omega
theorem mO{v:Value}{o:Option Int}{Q:Option Int→Shared→Prop}(p:IsPart v o)(h:Q o s):wpAny (model prog w) A (Builtin.Slice.slicePartIndex v) Q E s:=by
 cases p with
 |none=>exact slicePart_none h
 |int i t=>exact slicePart_int h
theorem lE{sl:Addr}{vl vu:Value}{lo hi:Option Int}{n:Nat}{Q:Int×Int×Nat→Shared→Prop}(hs:s.heap.IsSliceOf sl vl vu .none)(pl:IsPart vl lo)(pu:IsPart vu hi)
 (h:Q (((sIx n 0 lo:Nat):Int),1,sIx n n hi-sIx n 0 lo) s):wpAny (model prog w) A (Builtin.Slice.sliceApplied (.ref sl) (pure (n:Int))) Q E s:=by
 obtain⟨os,hos,hcs,hds⟩:=id hs
 unfold Builtin.Slice.sliceApplied Builtin.Slice.sliceFields
 refine wpAny_bind (wpAny_bind (wpAny_field hos hds (x:=vl) rfl (wpAny_bind (wpAny_field hos hds (x:=vu) rfl (wpAny_bind (wpAny_field hos hds (x:= .none) rfl (wpAny_pure ?_)))))))
 refine wpAny_bind (slicePart_none ?_)
 show wpAny _ _ (if((1:Int)==0)=true then _ else _) _ _ s
 rw[if_neg (by decide)]
 refine wpAny_bind (mO pl (wpAny_bind (mO pu (wpAny_bind (wpAny_pure ?_)))))
 show wpAny _ _ (match Builtin.Slice.sliceAdjust lo hi 1 (n:Int) with|(lo,hi)=>pure (lo,(1:Int),Builtin.Slice.slicePlaces lo hi 1)) _ _ s
 rw[sE lo hi n]
 show wpAny _ _ (pure (((sIx n 0 lo:Nat):Int),(1:Int),Builtin.Slice.slicePlaces ((sIx n 0 lo:Nat):Int) ((sIx n n hi:Nat):Int) 1)) _ _ s
 rw[sF]
 exact wpAny_pure h
theorem v7(xs:Array Value)(i k:Nat):((List.range k).filterMap fun(m:Nat)=>xs[((i:Int)+(m:Int)*1).toNat]?).toArray=((xs.toList.drop i).take k).toArray:=by
 have e:(fun(m:Nat)=>xs[((i:Int)+(m:Int)*1).toNat]?)=fun m=>xs[i+m]? :=by
  funext m
  have:((i:Int)+(m:Int)*1).toNat=i+m:=by omega
  rw[this]
 rw[e]
 have:=pick_run xs i k
 rw[List.filterMap_map] at this
 have e2:((fun x=>xs[x]?)∘fun x=>i+x)=fun m=>xs[i+m]? :=rfl
 rw[e2] at this
 rw[this]
theorem getItem_tuple_cut{t sl:Addr}{items:Array Value}{vl vu:Value}{lo hi:Option Int}{Q:Value→Shared→Prop}(ht:IsTup s.heap t items)(hs:s.heap.IsSliceOf sl vl vu .none)(pl:IsPart vl lo)(pu:IsPart vu hi)
 (hw:¬(sIx items.size 0 lo=0∧sIx items.size items.size hi=items.size))
 (h:Q (.ref s.heap.objs.size) {s with heap:=s.heap.push {cls:= .type "tuple",data:= .seq ((items.toList.drop (sIx items.size 0 lo)).take (sIx items.size items.size hi-sIx items.size 0 lo)).toArray}})
 (hsz:items.size≤sizeLine):wpAny (model prog w) A (getItem (.ref t) (.ref sl)) Q E s:=by
 have htake:sizeOk (.seq ((items.toList.drop (sIx items.size 0 lo)).take (sIx items.size items.size hi-sIx items.size 0 lo)).toArray):=by
  show ((items.toList.drop (sIx items.size 0 lo)).take (sIx items.size items.size hi-sIx items.size 0 lo)).toArray.size≤sizeLine
  rw[List.size_toArray,List.length_take,List.length_drop,Array.length_toList]
  omega
 have hj:sIx items.size items.size hi≤items.size:=Br _ _ (Nat.le_refl _) hi
 obtain⟨os,hos,hcs,hds⟩:=id hs
 have hTs:s.TypeIs (.ref sl) "slice":=⟨os,hos,hcs⟩
 unfold getItem
 try with_reducible refine wpAny_holding ?_
 first|refine wpAny_bind (wpAny_pure ?_)|skip
 refine wpAny_bind (wpAny_sequenceKey ht.typeIs (by decide) ?_)
 refine wpAny_bind (wpAny_callSpecial?_slot (name:=Str.ofString "__getitem__") ht.typeIs PyProof.Rows.slot_tuple_getitem
  (wpAny_call_entry PyProof.Rows.slot_tuple_getitem ht.typeIs entry_tuple_getitem ?_ (args_tuple_getitem _ _)))
 show wpAny _ _ (Builtin.Tuple.tupleItemsOf (.ref t)>>=_) _ _ s
 refine wpAny_bind (tupleItemsOf_ ht ?_)
 refine wpAny_bind (wpAny_typeOf hTs ?_)
 rw[if_pos (by decide)]
 refine wpAny_bind (lE hs pl pu ?_)
 have hno:¬((((sIx items.size 0 lo:Nat):Int)==0&&(1:Int)==1&&(sIx items.size items.size hi-sIx items.size 0 lo)==items.size)=true):=by
  intro q
  rw[Bool.and_eq_true,Bool.and_eq_true] at q
  have q1:((sIx items.size 0 lo:Nat):Int)=0:=eq_of_beq q.1.1
  have q2:sIx items.size items.size hi-sIx items.size 0 lo=items.size:=eq_of_beq q.2
  exact hw ⟨by omega,by omega⟩
 show wpAny _ _ (if(((sIx items.size 0 lo:Nat):Int)==0&&(1:Int)==1&&(sIx items.size items.size hi-sIx items.size 0 lo)==items.size)=true then _ else _) _ _ s
 rw[if_neg hno,v7]
 first
  |exact wpAny_bind (m:=Builtin.Tuple.tupleExact _) (wpAny_newObj_type (wpAny_pure ⟨_,rfl,wpAny_pure h⟩) htake)
  |exact wpAny_bind (m:=Builtin.Tuple.tupleExact _) (wpAny_newObj_type (wpAny_bind (wpAny_pure (wpAny_pure ⟨_,rfl,wpAny_pure h⟩))) htake)
  |exact wpAny_bind (wpAny_bind (m:=Builtin.Tuple.tupleExact _) (wpAny_newObj_type (wpAny_pure (wpAny_pure ⟨_,rfl,wpAny_pure h⟩)) htake))
  |exact wpAny_bind (wpAny_bind (m:=Builtin.Tuple.tupleExact _) (wpAny_newObj_type (wpAny_pure ⟨_,rfl,wpAny_pure h⟩) htake))
end
end HT
namespace L2
open PySem PySem.Spec PyProof.Rows
abbrev TO:=St→Hp→(Option Int→Hp→Prop)→Prop
def PO(X:Cx)(e:Option Expr)(t:TO):Prop:=
 ∀(pins:List (Addr×Obj)) (s:Shared) (σ:St) (H:Hp) (Q:Option Int→Hp→Prop),Inv X pins σ H s→t σ H Q→
  wpAny (model X.prog X.w) X.A (evalPart e X.env) (fun u s'=>∃o H',Inv X pins σ H' s'∧IsPart u o∧Q o H') X.xe s
def t6:TO:=fun _ H Q=>Q none H
def AB(t:TE):TO:=fun σ H Q=>t σ H fun x H1=>∃i,x= .int i∧Q (some i) H1
theorem sG{ns:List Int}:∀{us:List Value},Vals (ns.map V.int) us→IntsAre us ns:=by
 induction ns with
 |nil=>intro us r;rw[List.map_nil] at r;cases r;exact .nil
 |cons n ns ih=>
  intro us r
  rw[List.map_cons] at r
  cases r with
  |cons r1 r2=>
   obtain⟨t,e⟩:=r1
   subst e
   exact .cons n t (ih r2)
section
variable{X:Cx}{e:Expr}{te:TE}{lo hi:Option Expr}{tl th:TO}{pos p2:Pos}
theorem bX:PO X none t6:=by
 intro pins s σ H Q I h
 rw[evalPart_none]
 exact wpAny_pure ⟨none,H,I, .none,h⟩
theorem bI(h:PE X e te):PO X (some e) (AB te):=by
 intro pins s σ H Q I hw
 rw[evalPart_some]
 refine thn (h pins s σ H _ I hw) fun u s1 ⟨x,H1,I1,r1,q1⟩=> ?_
 obtain⟨i,rfl,q⟩:=q1
 obtain⟨t,rfl⟩:=r1
 exact⟨some i,H1,I1, .int i t,q⟩
def SlR(X:Cx)(r:V→Option Int→Option Int→Hp→VK→Prop):Prop:=
 ∀(pins:List (Addr×Obj)) (s:Shared) (σ:St) (H:Hp) (x:V) (v vl vu:Value) (lo hi:Option Int) (sl:Addr) (Q:VK),Inv X pins σ H s→RelV x v→s.heap.IsSliceOf sl vl vu .none→IsPart vl lo→IsPart vu hi→r x lo hi H Q→
  ∃T id,typeLookup (.type T) "__getitem__"=pure (some (.builtin id))∧s.TypeIs v T∧wpAny (model X.prog X.w) X.A (getItem v (.ref sl)) (EP X pins σ Q) X.xe s
theorem SlR.or{r r':V→Option Int→Option Int→Hp→VK→Prop}(h:SlR X r)(h':SlR X r'):SlR X (fun x lo hi H Q=>r x lo hi H Q∨r' x lo hi H Q):=by
 intro pins s σ H x v vl vu lo hi sl Q I rx hs pl pu q
 rcases q with q|q
 · exact h pins s σ H x v vl vu lo hi sl Q I rx hs pl pu q
 · exact h' pins s σ H x v vl vu lo hi sl Q I rx hs pl pu q
def tSl(r:V→Option Int→Option Int→Hp→VK→Prop)(te:TE)(tl th:TO):TE:=fun σ H Q=>te σ H fun x H1=>tl σ H1 fun l H2=>th σ H2 fun u H3=>r x l u H3 Q
theorem bt{r:V→Option Int→Option Int→Hp→VK→Prop}(hr:SlR X r)(he:PE X e te)(hl:PO X lo tl)(hu:PO X hi th):PE X (.Subscript e (.Slice lo hi none p2) pos) (tSl r te tl th):=by
 intro pins s σ H Q I h
 refine Subscript_ (thn (he pins s σ H _ I h) fun v s1 ⟨x,H1,I1,r1,q1⟩=> ?_)
 refine wpAny_Slice (thn (hl pins s1 σ H1 _ I1 q1) fun vl s2 ⟨l,H2,I2,pl,q2⟩=>thn (hu pins s2 σ H2 _ I2 q2) fun vu s3 ⟨u,H3,I3,pu,q3⟩=> ?_)
 rw[evalPart_none]
 refine wpAny_pure ?_
 have I4:Inv X pins σ H3 {s3 with heap:=s3.heap.push {cls:= .type "slice",data:= .fields #[vl,vu, .none]}}:=I3.kept (t':=s3.toks) fun b ob q=>Heap.get?_push_of_some _ q
 obtain⟨T,id,hT,ht,hg⟩:=hr pins {s3 with heap:=s3.heap.push {cls:= .type "slice",data:= .fields #[vl,vu, .none]}} σ H3 x v vl vu l u s3.heap.objs.size Q I4 r1 (Heap.IsSliceOf.new ..) pl pu q3
 show wpAny (model X.prog X.w) X.A (subscriptTail e (.Slice lo hi none p2) v (.ref s3.heap.objs.size)) (EP X pins σ Q) X.xe {s3 with heap:=s3.heap.push {cls:= .type "slice",data:= .fields #[vl,vu, .none]}}
 exact tail_any (ops:=[.ref s3.heap.objs.size,v]) ht hT hg (by with_unfolding_all rfl)
def rj(xs:List V)(lo hi:Option Int):List V:=(xs.drop (HT.sIx xs.length 0 lo)).take (HT.sIx xs.length xs.length hi-HT.sIx xs.length 0 lo)
theorem lZ(xs:List V)(lo hi:Option Int):(rj xs lo hi).length≤xs.length:=by
 unfold rj
 rw[List.length_take,List.length_drop]
 omega
def De(K:W.Frag):V→Option Int→Option Int→Hp→VK→Prop:=fun x lo hi H Q=>∃a xs,x= .ref a∧SqT K H a xs∧
 ¬(HT.sIx xs.length 0 lo=0∧HT.sIx xs.length xs.length hi=xs.length)∧∀p,H p=none→Q (.ref p) (upd H p (.tup (rj xs lo hi)))
theorem Bs:SlR X (De X.K):=by
 intro pins s σ H x v vl vu lo hi sl Q I rx hs pl pu h
 obtain⟨a,xs,rfl,hx,hw,q⟩:=h
 cases rx
 obtain⟨its,r,ht,hz⟩:=I.tuple hx
 have hlen:its.toArray.size=xs.length:=by rw[List.size_toArray];exact r.length.symm
 refine⟨"tuple",_,PyProof.Rows.slot_tuple_getitem.lookup,ht.typeIs, ?_⟩
 refine HT.getItem_tuple_cut ht hs pl pu (by rw[hlen];exact hw) ?_ (by rw[hlen];exact hz)
 rw[hlen]
 refine⟨.ref s.heap.objs.size,_,I.laid (t':=s.toks) (o:= .tup (rj xs lo hi)) (fun b ob q=>Heap.get?_push_of_some _ q) (Nat.le_refl _) ?_,rfl,q _ (I.hok.fresh (Nat.le_refl _))⟩
 exact⟨Nat.le_trans (lZ xs lo hi) hz,_,(r.drop (HT.sIx xs.length 0 lo)).take (HT.sIx xs.length xs.length hi-HT.sIx xs.length 0 lo),IsTup.new _ _⟩
def AC(K:W.Frag):R2:=fun x y H Q=>∃a b xs ys,x= .ref a∧y= .ref b∧SqT K H a xs∧SqT K H b ys∧xs≠[]∧xs.length+ys.length≤sizeLine∧
 (ys=[]→Q (.ref a) H)∧(ys≠[]→∀p,H p=none→Q (.ref p) (upd H p (.tup (xs++ys))))
theorem Vals.nil_iff{xs:List V}{us:List Value}(r:Vals xs us):us=[]↔xs=[]:=by
 cases r with
 |nil=>simp
 |cons _ _=>simp
theorem y2:OpR X (binaryOp .Add) (AC X.K):=by
 intro pins s σ H x y v u Q I rx ry h
 obtain⟨a,b,xs,ys,rfl,rfl,ha,hb,hx,hz,q1,q2⟩:=h
 cases rx
 cases ry
 obtain⟨its,r1,p1,_⟩:=I.tuple ha
 obtain⟨its2,r2,p2,_⟩:=I.tuple hb
 refine HT.cat_tup p1 p2 (fun z=>hx (r1.nil_iff.mp z)) (fun z=>⟨.ref a,H,I,rfl,q1 (r2.nil_iff.mp z)⟩) (fun z=> ?_) (by rw[←r1.length,←r2.length];exact hz)
 refine⟨.ref s.heap.objs.size,_,I.laid (t':=s.toks) (o:= .tup (xs++ys)) (fun b ob q=>Heap.get?_push_of_some _ q) (Nat.le_refl _) ?_,rfl,q2 (fun w=>z (r2.nil_iff.mpr w)) _ (I.hok.fresh (Nat.le_refl _))⟩
 exact⟨by rw[List.length_append];exact hz,_,r1.append r2,IsTup.new _ _⟩
end
def ixN(n:Nat)(i:Int):Option Nat:=if 0≤i then(if i<n then some i.toNat else none) else if-(n:Int)≤i then some (i+n).toNat else none
def atI{α:Type}(xs:List α)(i:Int):Option α:=(ixN xs.length i).bind fun j=>xs[j]?
theorem y3{n:Nat}{i:Int}{j:Nat}(h:ixN n i=some j):seqIndex? i n=some j∧j<n∧ -(n:Int)≤i∧i<n:=by
 unfold ixN at h
 by_cases h0:0≤i
 · rw[if_pos h0] at h
   by_cases h1:i<n
   · rw[if_pos h1] at h
     have e:i.toNat=j:=Option.some.inj h
     exact⟨by rw[seqIndex_of h0 h1,e],by omega,by omega,h1⟩
   · rw[if_neg h1] at h;cases h
 · rw[if_neg h0] at h
   by_cases h1: -(n:Int)≤i
   · rw[if_pos h1] at h
     have e:(i+n).toNat=j:=Option.some.inj h
     exact⟨by rw[seqIndex_neg (by omega) h1,e],by omega,h1,by omega⟩
   · rw[if_neg h1] at h;cases h
theorem pS{α:Type}{xs:List α}{i:Int}{v:α}(h:atI xs i=some v):∃j,seqIndex? i xs.length=some j∧xs[j]? =some v∧j<xs.length∧ -(xs.length:Int)≤i∧i<xs.length:=by
 unfold atI at h
 cases e:ixN xs.length i with
 |none=>rw[e] at h;cases h
 |some j=>
  rw[e] at h
  obtain⟨h1,h2,h3,h4⟩:=y3 e
  exact⟨j,h1,h,h2,h3,h4⟩
theorem y4{α:Type}{xs:List α}{j:Nat}{v:α}(h:xs[j]? =some v):atI xs (j:Int)=some v:=by
 have hj:j<xs.length:=(List.getElem?_eq_some_iff.mp h).1
 have e:ixN xs.length (j:Int)=some j:=by
  unfold ixN
  rw[if_pos (by omega),if_pos (by omega)];simp
 unfold atI;rw[e];exact h
def y6(b:Expr):Prop:=∀o i,subscripted b false o i=operate [o,i] (getItem o i)
def IxR(X:Cx)(r:R2):Prop:=
 ∀(value slice:Expr) (pins:List (Addr×Obj)) (s:Shared) (σ:St) (H:Hp) (x y:V) (v u:Value) (Q:VK),Inv X pins σ H s→RelV x v→RelV y u→r x y H Q→
  subscripted slice false v u=operate [v,u] (getItem v u)→wpAny (model X.prog X.w) X.A (subscriptTail value slice v u) (EP X pins σ Q) X.xe s
def MtR(X:Cx)(id:String)(r:V→List V→Hp→VK→Prop):Prop:=
 ∀(pins:List (Addr×Obj)) (s:Shared) (σ:St) (H:Hp) (x:V) (xs:List V) (v:Value) (us:List Value) (Q:VK),Inv X pins σ H s→RelV x v→Vals xs us→r x xs H Q→
  wpAny (model X.prog X.w) X.A (call (.builtin id) (v::us)) (EP X pins σ Q) X.xe s
section
variable{X:Cx}{a b:Expr}{ta tb:TE}{pos:Pos}
theorem IxR.or{r r':R2}(h:IxR X r)(h':IxR X r'):IxR X (fun x y H Q=>r x y H Q∨r' x y H Q):=by
 intro value slice pins s σ H x y v u Q I rx ry q hs
 rcases q with q|q
 · exact h value slice pins s σ H x y v u Q I rx ry q hs
 · exact h' value slice pins s σ H x y v u Q I rx ry q hs
theorem aN{r:R2}(hr:IxR X r)(ha:PE X a ta)(hb:PE X b tb)(hs:y6 b):PE X (.Subscript a b pos) (tOp r ta tb):=by
 intro pins s σ H Q I h
 exact Subscript_ (Bj ha hb I h fun v u s2 x y H2 I2 rx ry q=>hr a b pins s2 σ H2 x y v u Q I2 rx ry q (hs _ _))
def Df(K:W.Frag):R2:=fun x y H Q=>∃p xs i v,x= .ref p∧y= .int i∧SqL K H p xs∧atI xs i=some v∧Q v H
def Dg(K:W.Frag):R2:=fun x y H Q=>∃p xs i v,x= .ref p∧y= .int i∧SqT K H p xs∧atI xs i=some v∧Q v H
def Dh:R2:=fun x y H Q=>∃z i c,x= .str z∧y= .int i∧z.length≤sizeLine∧atI z.cps.toList i=some c∧Q (.str ⟨#[c]⟩) H
theorem y7:IxR X (Df X.K):=by
 intro value slice pins s σ H x y v u Q I rx ry h hs
 obtain⟨p,xs,i,z,rfl,rfl,hq,he,q⟩:=h
 cases rx
 obtain⟨t,rfl⟩:=ry
 obtain⟨its,r,pl,hz⟩:=I.list hq
 obtain⟨j,h1,h2,h3,h4,h5⟩:=pS he
 obtain⟨w,ew,rw'⟩:=r.get h2
 have hl:=r.length
 have hn:=lD
 have fin:EP X pins σ Q w s:=⟨z,H,I,rw',q⟩
 by_cases h0:0≤i
 · have hj:i.toNat=j:=by
    rw[seqIndex_of h0 h5] at h1
    exact Option.some.inj h1
   exact item_listR pl.isList h0 (by omega) (by rw[hj];simpa using ew) fin hs
 · have hj:(i+(its.toArray.size:Int)).toNat=j:=by
    rw[seqIndex_neg (by omega) h4] at h1
    rw[List.size_toArray,←hl]
    exact Option.some.inj h1
   exact subscriptTail_builtinR (x:=w) pl.isList.typeIs slot_list_getitem.lookup
    (wpAny_getItem_list_neg (Q:=fun r s'=>r=w∧EP X pins σ Q r s') pl.isList (by omega) (by rw[List.size_toArray]<;>omega) (by omega) (by rw[hj];simpa using ew) ⟨rfl,fin⟩) hs
theorem Bt:IxR X (Dg X.K):=by
 intro value slice pins s σ H x y v u Q I rx ry h hs
 obtain⟨p,xs,i,z,rfl,rfl,hq,he,q⟩:=h
 cases rx
 obtain⟨t,rfl⟩:=ry
 obtain⟨its,r,pl,hz⟩:=I.tuple hq
 obtain⟨j,h1,h2,h3,h4,h5⟩:=pS he
 obtain⟨w,ew,rw'⟩:=r.get h2
 have hl:=r.length
 have hn:=lD
 have fin:EP X pins σ Q w s:=⟨z,H,I,rw',q⟩
 exact subscriptTail_builtinR (x:=w) pl.typeIs slot_tuple_getitem.lookup
  (getItem_tuple (j:=j) (Q:=fun r s'=>r=w∧EP X pins σ Q r s') pl (by omega) (by omega) (by rw[List.size_toArray,←hl];exact h1) (by simpa using ew) ⟨rfl,fin⟩) hs
theorem Bu:IxR X Dh:=by
 intro value slice pins s σ H x y v u Q I rx ry h hs
 obtain⟨z,i,c,rfl,rfl,hz,he,q⟩:=h
 obtain⟨t,rfl⟩:=rx
 obtain⟨t',rfl⟩:=ry
 obtain⟨j,h1,h2,h3,h4,h5⟩:=pS he
 have hl:z.cps.toList.length=z.length:=by simp[Str.length]
 rw[hl] at h1 h4 h5
 have hn:=lD
 exact tail_any (typeIs_str s z t) slot_str_getitem.lookup (getItem_str (c:=c) (by
  have e1:decide (i< -(2^63:Int))=false:=decide_eq_false (by omega)
  have e2:decide (i≥2^63)=false:=decide_eq_false (by omega)
  rw[e1,e2,Bool.or_false]) (by rw[h1];simpa using h2) ⟨.str ⟨#[c]⟩,H,I.tok _,⟨_,rfl⟩,q⟩) hs
def rIx(K:W.Frag):R2:=fun x y H Q=>Df K x y H Q∨Dg K x y H Q∨Dh x y H Q
theorem aD:IxR X (rIx X.K):=y7.or (Bt.or Bu)
theorem pT(lo hi:Option Int)(n:Nat):(sliceBounds lo hi none n).1=((HT.sIx n 0 lo:Nat):Int)∧(sliceBounds lo hi none n).2.1=((HT.sIx n n hi:Nat):Int)∧(sliceBounds lo hi none n).2.2=1:=by
 refine⟨?_, ?_,rfl⟩
 · cases lo with
   |none=>simp[sliceBounds,HT.sIx]
   |some i=>
    simp only[sliceBounds,HT.sIx,Option.getD_none,show (1:Int)>0 by decide,if_true]
    by_cases h:i<0
    · simp only[h,if_true]<;>omega
    · simp only[h,if_false]<;>omega
 · cases hi with
   |none=>simp[sliceBounds,HT.sIx]
   |some i=>
    simp only[sliceBounds,HT.sIx,Option.getD_none,show (1:Int)>0 by decide,if_true]
    by_cases h:i<0
    · simp only[h,if_true]<;>omega
    · simp only[h,if_false]<;>omega
theorem oI(its:List Value)(lo hi:Option Int):slicePick its.toArray lo hi none=((its.drop (HT.sIx its.length 0 lo)).take (HT.sIx its.length its.length hi-HT.sIx its.length 0 lo)).toArray:=by
 obtain⟨h1,h2,h3⟩:=pT lo hi its.toArray.size
 unfold slicePick
 rw[h1,h2,h3]
 simp only[sliceRange_one,pick_run,List.size_toArray]<;>rfl
def Di(K:W.Frag):V→Option Int→Option Int→Hp→VK→Prop:=fun x lo hi H Q=>∃a xs,x= .ref a∧SqL K H a xs∧∀p,H p=none→Q (.ref p) (upd H p (.lst (rj xs lo hi)))
theorem y8:SlR X (Di X.K):=by
 intro pins s σ H x v vl vu lo hi sl Q I rx hs pl pu h
 obtain⟨a,xs,rfl,hx,q⟩:=h
 cases rx
 obtain⟨its,r,ht,hz⟩:=I.list hx
 have hlen:=r.length
 refine⟨"list",_,slot_list_getitem.lookup,ht.isList.typeIs, ?_⟩
 refine wpAny_getItem_list_slice ht.isList hs pl pu .none (by simp) ?_ (by rw[List.size_toArray]<;>omega)
 rw[oI,←hlen]
 refine⟨.ref s.heap.objs.size,_,I.laid (t':=s.toks) (o:= .lst (rj xs lo hi)) (fun b ob q=>Heap.get?_push_of_some _ q) (Nat.le_refl _) ?_,rfl,q _ (I.hok.fresh (Nat.le_refl _))⟩
 exact⟨Nat.le_trans (lZ xs lo hi) hz,_,0,(r.drop (HT.sIx xs.length 0 lo)).take (HT.sIx xs.length xs.length hi-HT.sIx xs.length 0 lo),Heap.get?_push_size _ rfl⟩
def flatV:V→Bool
 | .non=>true
 | .bl _=>true
 | .int _=>true
 | .str _=>true
 |_=>false
def eqV:V→V→Bool
 | .non, .non=>true
 | .bl a, .bl b=>a==b
 | .bl a, .int b=>(if a then 1 else 0)==b
 | .int a, .bl b=>a==(if b then 1 else 0)
 | .int a, .int b=>a==b
 | .str a, .str b=>a==b
 |_,_=>false
theorem v8{A:Around}{s:Shared}{y x:V}{u v:Value}(ry:RelV y u)(rx:RelV x v)(fy:flatV y=true)(fx:flatV x=true):SeqAt.EqAt A s u v (eqV y x):=by
 cases y with
 |non=>
  cases ry
  cases x with
  |non=>cases rx;exact SeqAt.EqAt.same _
  |bl b=>cases rx;exact SeqAt.EqAt.none_bool b
  |int b=>obtain⟨t,rfl⟩:=rx;exact SeqAt.EqAt.none_int b t
  |str b=>obtain⟨t,rfl⟩:=rx;exact SeqAt.EqAt.none_str b t
  |_=>exact absurd (show false=true from fx) Bool.false_ne_true
 |bl a=>
  cases ry
  cases x with
  |non=>cases rx;exact SeqAt.EqAt.bool_none a
  |bl b=>cases rx;exact SeqAt.EqAt.bool_bool a b
  |int b=>obtain⟨t,rfl⟩:=rx;exact SeqAt.EqAt.bool_int a b t
  |str b=>obtain⟨t,rfl⟩:=rx;exact SeqAt.EqAt.bool_str a b t
  |_=>exact absurd (show false=true from fx) Bool.false_ne_true
 |int a=>
  obtain⟨t',rfl⟩:=ry
  cases x with
  |non=>cases rx;exact SeqAt.EqAt.int_none a t'
  |bl b=>cases rx;exact SeqAt.EqAt.int_bool a t' b
  |int b=>obtain⟨t,rfl⟩:=rx;exact SeqAt.EqAt.int_int a t' b t
  |str b=>obtain⟨t,rfl⟩:=rx;exact SeqAt.EqAt.int_str a t' b t
  |_=>exact absurd (show false=true from fx) Bool.false_ne_true
 |str a=>
  obtain⟨t',rfl⟩:=ry
  cases x with
  |non=>cases rx;exact SeqAt.EqAt.str_none a t'
  |bl b=>cases rx;exact SeqAt.EqAt.str_bool a t' b
  |int b=>obtain⟨t,rfl⟩:=rx;exact SeqAt.EqAt.str_int a t' b t
  |str b=>obtain⟨t,rfl⟩:=rx;exact SeqAt.EqAt.str_str a t' b t
  |_=>exact absurd (show false=true from fx) Bool.false_ne_true
 |_=>exact absurd (show false=true from fy) Bool.false_ne_true
def eqU(x:V)(u:Value):Bool:=match u with
 | .none=>eqV .non x
 | .bool b=>eqV (.bl b) x
 | .int i _=>eqV (.int i) x
 | .str z _=>eqV (.str z) x
 |_=>false
theorem v9{x y:V}{u:Value}(r:RelV y u)(f:flatV y=true):eqU x u=eqV y x:=by
 cases y with
 |non=>cases r;rfl
 |bl b=>cases r;rfl
 |int i=>obtain⟨t,rfl⟩:=r;rfl
 |str z=>obtain⟨t,rfl⟩:=r;rfl
 |_=>exact absurd (show false=true from f) Bool.false_ne_true
theorem pU{x:V}:∀{xs:List V} {us:List Value},Vals xs us→xs.all flatV=true→us.any (eqU x)=xs.any fun y=>eqV y x
 |_,_, .nil,_=>rfl
 |y::xs,u::us, .cons r t,f=>by
  rw[List.all_cons,Bool.and_eq_true] at f
  rw[List.any_cons,List.any_cons,v9 r f.1,pU t f.2]
theorem mP{A:Around}{s:Shared}{x:V}{v:Value}(rx:RelV x v)(fx:flatV x=true):∀{xs:List V} {us:List Value},Vals xs us→xs.all flatV=true→∀u∈us,SeqAt.EqAt A s u v (eqU x u)
 |_,_, .nil,_=>fun u hu=>by cases hu
 |y::xs,u::us, .cons r t,f=>fun u' hu=>by
  rw[List.all_cons,Bool.and_eq_true] at f
  rcases List.mem_cons.mp hu with rfl|hu
  · rw[v9 r f.1];exact v8 r rx f.1 fx
  · exact mP rx fx t f.2 u' hu
def inV(x:V)(xs:List V):Bool:=xs.any fun y=>eqV y x
def rIn(K:W.Frag)(neg:Bool):R2:=fun x y H Q=>∃p xs,y= .ref p∧(SqL K H p xs∨SqT K H p xs)∧flatV x=true∧xs.all flatV=true∧Q (.bl (if neg then !inV x xs else inV x xs)) H
theorem vh:OpR X (compareOp .In) (rIn X.K false):=by
 intro pins s σ H x y v u Q I rx ry h
 obtain⟨p,xs,rfl,hq,fx,fs,q⟩:=h
 cases ry
 rcases hq with hq|hq
 · obtain⟨its,r,pl,hz⟩:=I.list hq
   refine SeqAt.in_listAt (eqU x) pl.isList (fun w hw=>mP rx fx r fs w (by simpa using hw)) ⟨.bl _,H,I,rfl, ?_⟩
   rw[show its.toArray.any (eqU x)=its.any (eqU x) by simp,pU r fs]
   exact q
 · obtain⟨its,r,pl,hz⟩:=I.tuple hq
   refine SeqAt.in_tupleAt (eqU x) pl (fun w hw=>mP rx fx r fs w (by simpa using hw)) ⟨.bl _,H,I,rfl, ?_⟩
   rw[show its.toArray.any (eqU x)=its.any (eqU x) by simp,pU r fs]
   exact q
theorem pV:CallR X (.builtin "len") (fun xs H Q=>∃p ys,xs=[.ref p]∧(SqL X.K H p ys∨SqT X.K H p ys)∧Q (.int ys.length) H):=by
 intro pins s σ H xs us Q I r h
 obtain⟨p,ys,rfl,hq,q⟩:=h
 obtain⟨u,rfl,rx⟩:=mN r
 cases rx
 have hn:=lD
 rcases hq with hq|hq
 · obtain⟨its,r',pl,hz⟩:=I.list hq
   have hlen:=r'.length
   exact Calls.call_len_list pl.isList (by simp only[List.size_toArray]<;>omega) ⟨.int ys.length,H,I.tok _,⟨s.toks+1,by rw[List.size_toArray,hlen]⟩,q⟩
 · obtain⟨its,r',pl,hz⟩:=I.tuple hq
   have hlen:=r'.length
   exact len_tuple pl (by simp only[List.size_toArray]<;>omega) ⟨.int ys.length,H,I.tok _,⟨s.toks+1,by rw[List.size_toArray,hlen]⟩,q⟩
theorem pW:CallR X (.builtin "len") (fun xs H Q=>∃z,xs=[.str z]∧z.length≤sizeLine∧Q (.int z.length) H):=by
 intro pins s σ H xs us Q I r h
 obtain⟨z,rfl,hz,q⟩:=h
 obtain⟨u,rfl,t,rfl⟩:=mN r
 have hn:=lD
 exact len_str (by omega) ⟨.int z.length,H,I.tok _,⟨_,rfl⟩,q⟩
theorem CallR.or{f:Value}{r r':List V→Hp→VK→Prop}(h:CallR X f r)(h':CallR X f r'):CallR X f (fun xs H Q=>r xs H Q∨r' xs H Q):=by
 intro pins s σ H xs us Q I rs q
 rcases q with q|q
 · exact h pins s σ H xs us Q I rs q
 · exact h' pins s σ H xs us Q I rs q
theorem jc:CallR X (.type "list") (fun xs H Q=>∃p ys,xs=[.ref p]∧(SqL X.K H p ys∨SqT X.K H p ys)∧∀l,H l=none→Q (.ref l) (upd H l (.lst ys))):=by
 intro pins s σ H xs us Q I r h
 obtain⟨p,ys,rfl,hq,q⟩:=h
 obtain⟨u,rfl,rx⟩:=mN r
 cases rx
 have fin:∀(its:List Value),Vals ys its→ys.length≤sizeLine→∀(h':Heap) (c':Nat),(∀b o',s.heap.get? b=some o'→h'.get? b=some o')→
  h'.get? s.heap.objs.size=some {cls:= .type "list",dict:=none,data:= .seq its.toArray c',slots:= #[]}→EP X pins σ Q (.ref s.heap.objs.size) {s with heap:=h'}:=fun its r' hz h' c' kp e=>
  ⟨.ref s.heap.objs.size,_,I.laid (t':=s.toks) kp (Nat.le_refl _) (show ObjOk X.prog X.w _ h' _ (.lst ys) from⟨hz,its,c',r',e⟩),rfl,q _ (I.hok.fresh (Nat.le_refl _))⟩
 rcases hq with hq|hq
 · obtain⟨its,r',pl,hz⟩:=I.list hq
   have hlen:=r'.length
   obtain⟨o,ho,hc,n,hd⟩:=pl.isList
   exact call_list_seq p (.inl rfl) ho hc hd (fun h' c' kp e=>fin its r' hz h' c' kp e) (by simp only[List.size_toArray]<;>omega)
 · obtain⟨its,r',pl,hz⟩:=I.tuple hq
   have hlen:=r'.length
   obtain⟨o,ho,hc,n,hd⟩:=pl
   exact call_list_seq p (.inr rfl) ho hc hd (fun h' c' kp e=>fin its r' hz h' c' kp e) (by simp only[List.size_toArray]<;>omega)
theorem kb:CallR X (.type "tuple") (fun xs H Q=>∃p ys,xs=[.ref p]∧((SqL X.K H p ys∧∀l,H l=none→Q (.ref l) (upd H l (.tup ys)))∨(SqT X.K H p ys∧Q (.ref p) H))):=by
 intro pins s σ H xs us Q I r h
 obtain⟨p,ys,rfl,h⟩:=h
 obtain⟨u,rfl,rx⟩:=mN r
 cases rx
 rcases h with⟨hq,q⟩|⟨hq,q⟩
 · obtain⟨its,r',pl,hz⟩:=I.list hq
   have hlen:=r'.length
   refine call_tuple_list pl.isList (fun h' kp=> ?_) (by simp only[List.size_toArray]<;>omega)
   have I1:Inv X pins σ H {s with heap:=h'}:=I.kept (t':=s.toks) kp
   have I2:Inv X pins σ (upd H h'.objs.size (.tup ys)) {s with heap:=h'.push {cls:= .type "tuple",data:= .seq its.toArray}}:=
    I1.laid (t':=s.toks) (fun b o e=>Heap.get?_push_of_some _ e) (Nat.le_refl _) (show ObjOk X.prog X.w _ _ _ (.tup ys) from⟨hz,its,r',IsTup.new _ _⟩)
   exact⟨.ref h'.objs.size,_,I2,rfl,q _ (I1.hok.fresh (Nat.le_refl _))⟩
 · obtain⟨its,r',pl,hz⟩:=I.tuple hq
   exact call_tuple_same pl ⟨.ref p,H,I,rfl,q⟩
def tyV(K:W.Frag)(T:String)(x:V)(H:Hp):Prop:=match x with
 | .str _=>T="str"
 | .int _=>T="int"
 | .ref p=>(T="list"∧∃xs,SqL K H p xs)∨(T="tuple"∧∃o,K.lookup p=some o∧o.cls= .type "tuple"∧o.dict=none)∨
  (T="dict"∧((∃kvs,H p=some (.dK kvs))∨∃kvs,H p=some (.dT kvs)))∨(T="set"∧∃S n,H p=some (.set S n))
 |_=>False
theorem Bv{pins:List (Addr×Obj)}{σ:St}{H:Hp}{s:Shared}{T:String}{x:V}{v:Value}(I:Inv X pins σ H s)(r:RelV x v)(ty:tyV X.K T x H):
 s.TypeIs v T∧∀a,v= .ref a→∃ob,s.heap.get? a=some ob∧ob.dict=none:=by
 cases x with
 |str z=>
  obtain⟨t,rfl⟩:=r
  cases (show T="str" from ty)
  exact⟨typeIs_str s z t,fun _ e=>nomatch e⟩
 |int i=>
  obtain⟨t,rfl⟩:=r
  cases (show T="int" from ty)
  exact⟨typeIs_int s i t,fun _ e=>nomatch e⟩
 |ref p=>
  cases r
  rcases ty with⟨rfl,xs,hq⟩|⟨rfl,o,hk,hc,hd⟩|⟨rfl,hk⟩|⟨rfl,S,n,hk⟩
  · obtain⟨its,_,pl,_⟩:=I.list hq
    refine⟨pl.isList.typeIs,fun a e=> ?_⟩
    cases e
    obtain⟨o,n,e,c,hd,_⟩:=pl
    exact⟨o,e,hd⟩
  · refine⟨⟨o,I.kIn p o hk,hc⟩,fun a e=> ?_⟩
    cases e
    exact⟨o,I.kIn _ o hk,hd⟩
  · have z:∃o,s.heap.get? p=some o∧o.ExactDict:=by
     rcases hk with⟨kvs,hk⟩|⟨kvs,hk⟩
     · obtain⟨_,_,_,_,o,_,_,e,ex,_⟩:=I.hok p _ hk
       exact⟨o,e,ex⟩
     · obtain⟨_,_,_,_,o,_,_,e,ex,_⟩:=I.hok p _ hk
       exact⟨o,e,ex⟩
    obtain⟨o,e,ex⟩:=z
    refine⟨⟨o,e,ex.1⟩,fun a e2=> ?_⟩
    cases e2
    exact⟨o,e,ex.2.1⟩
  · obtain⟨o,_,_,_,e,ex,_⟩:=I.hok p _ hk
    refine⟨⟨o,e,ex.1⟩,fun a e2=> ?_⟩
    cases e2
    exact⟨o,e,ex.2.1⟩
 |_=>exact False.elim ty
def tBM(K:W.Frag)(T:String)(r:V→List V→Hp→VK→Prop)(to:TE)(t:TA):TE:=fun σ H Q=>to σ H fun x H1=>tyV K T x H1∧t σ H1 fun xs H2=>r x xs H2 Q
variable{o e:Expr}{es:List Expr}{to:TE}{t:TA}{name:Str}{apos cpos:Pos}{T id:String}{r:V→List V→Hp→VK→Prop}
theorem d3(pa:PlainAttrs T)(slot:Slot T name id)(hty:typeOf (.builtin id)=pure (.type "method_descriptor"))(hm:MtR X id r)(ho:PE X o to)(ha:PA X (e::es) t)
 (hbase:attributeBase o name X.env (eval o X.env)=eval o X.env:=by rfl)
 (hfew:((backTo cpos (starEach (e::es) X.env)).all (fun x=> !x.1)&&(backToKw cpos (keywordEach [] X.env)).all (fun x=>x.1.isSome)
  &&decide ((e::es).length+([]:List Keyword).length+(if([]:List Keyword).isEmpty then 0 else 1)<30))=true:=by rfl)
 (hline:(apos.endLine==cpos.line)=true:=by rfl)(hs:starEach (e::es) X.env=(false,eval e X.env)::starEach es X.env:=by rfl)(hplain:(backTo cpos (starEach es X.env)).any (·.1)=false:=by rfl):
 PE X (.Call (.Attribute o name apos) (e::es) [] cpos) (tBM X.K T r to t):=by
 intro pins s σ H Q I h
 refine wpAny_Call_method_late hbase hfew hline rfl (thn (ho pins s σ H _ I h) fun v s1 ⟨x,H1,I1,r1,ty,q1⟩=> ?_)
 obtain⟨h1,h2⟩:=Bv I1 r1 ty
 refine⟨T,id,pa,slot,hty,h1,h2, ?_⟩
 have hA:=ha cpos pins s1 σ H1 _ I1 q1
 rw[hs] at hA ⊢
 refine Calls.callWith_builtin (by show (false||(backTo cpos (starEach es X.env)).any (·.1))=false;rw[hplain]<;>rfl) (Calls.evalArgs_plain ?_)
 exact thn hA fun us s2 ⟨vs,H2,I2,r2,q2⟩=>hm pins s2 σ H2 x vs v us Q I2 r1 r2 q2
end
def MtM(X:Cx)(id:String)(r:V→List V→Hp→VK→Prop):Prop:=
 ∀(pins:List (Addr×Obj)) (s:Shared) (σ:St) (H:Hp) (x:V) (xs:List V) (v:Value) (us:List Value) (Q:VK),Inv X pins σ H s→RelV x v→Vals xs us→r x xs H Q→
  wpAny (model X.prog X.w) X.A (call (.builtin id) (v::us)) (EP X pins σ Q) X.xe s
theorem Vals.one:∀{x:V} {us:List Value},Vals [x] us→∃u,us=[u]∧RelV x u
 |_,_, .cons r .nil=>⟨_,rfl,r⟩
theorem Vals.two:∀{x y:V} {us:List Value},Vals [x,y] us→∃u v,us=[u,v]∧RelV x u∧RelV y v
 |_,_,_, .cons r (.cons q .nil)=>⟨_,_,rfl,r,q⟩
theorem Vals.zero:∀{us:List Value},Vals [] us→us=[]
 |_, .nil=>rfl
theorem Vals.reverse{xs:List V}{us:List Value}(h:Vals xs us):Vals xs.reverse us.reverse:=by
 induction h with
 |nil=>exact .nil
 |cons r t ih=>rw[List.reverse_cons,List.reverse_cons];exact Vals.append ih (.cons r .nil)
theorem Vals.rep{xs:List V}{us:List Value}(h:Vals xs us):∀k:Nat,Vals (List.replicate k xs).flatten (List.replicate k us).flatten
 |0=> .nil
 |k+1=>by
  rw[List.replicate_succ,List.replicate_succ,List.flatten_cons,List.flatten_cons]
  exact Vals.append h (Vals.rep h k)
theorem pi(its:List Value):∀(k:Nat) (acc:List Value),
 List.foldl (fun x1 x2=>x1++x2) acc.toArray (List.replicate k its.toArray)=(acc++(List.replicate k its).flatten).toArray
 |0,acc=>by simp
 |k+1,acc=>by
  have e:acc.toArray++its.toArray=(acc++its).toArray:=by simp
  have e2:(acc++its)++(List.replicate k its).flatten=acc++(List.replicate (k+1) its).flatten:=by
   rw[List.replicate_succ,List.flatten_cons,List.append_assoc]
  rw[←e2,←pi its k (acc++its),←e,List.replicate_succ,List.foldl_cons]
section
variable{X:Cx}{pins:List (Addr×Obj)}{σ:St}{H:Hp}{s:Shared}{l b:Addr}{xs ys zs:List V}
theorem Inv.lset{its its':List Value}{n:Nat}{f:Array Value→Array Value}{t':Nat}(I:Inv X pins σ H s)(hH:H l=some (.lst xs))
 (e:s.heap.get? l=some {cls:= .type "list",data:= .seq its.toArray n})(hf:f its.toArray=its'.toArray)(hv:Vals ys its')(hz:ys.length≤sizeLine):
 Inv X pins σ (upd H l (.lst ys)) {s with heap:=s.heap.update l (Obj.mapSeq f),toks:=t'}:=by
 have q:=PySem.IsL.update e f
 rw[hf] at q
 refine I.write (x:=l) (e:=l) (by rw[hH];exact trivial) (.inl rfl) (fun b' u hb hu=>(Heap.get?_update_other s.heap (Obj.mapSeq f) (Ne.symm hb)).trans hu) ⟨_,q⟩ ?_
 exact⟨hz,its',_,hv,q⟩
theorem Inv.lnew{its:List Value}{t':Nat}(I:Inv X pins σ H s)(hv:Vals ys its)(hz:ys.length≤sizeLine):
 Inv X pins σ (upd H s.heap.objs.size (.lst ys)) {s with heap:=s.heap.push {cls:= .type "list",data:= .seq its.toArray},toks:=t'}:=
 I.laid (fun _ _ q=>Heap.get?_push_of_some _ q) (Nat.le_refl _) ⟨hz,its,0,hv,Heap.get?_push_size _ rfl⟩
theorem Inv.fresh(I:Inv X pins σ H s):H s.heap.objs.size=none:=I.hok.fresh (Nat.le_refl _)
theorem Inv.lstM(I:Inv X pins σ H s)(hH:H l=some (.lst xs)):xs.length≤sizeLine∧∃(its:List Value) (n:Nat),Vals xs its∧xs.length=its.length∧s.heap.get? l=some {cls:= .type "list",data:= .seq its.toArray n}:=by
 obtain⟨z,its,n,r,e⟩:=I.hok l _ hH
 exact⟨z,its,n,r,r.length,e⟩
theorem wb{n:Nat}(h:n≤sizeLine):Builtin.List.listTooLong n=false:=by
 unfold Builtin.List.listTooLong
 exact decide_eq_false (by omega)
end
section
variable{X:Cx}
def kI:V→List V→Hp→VK→Prop:=fun x vs H Q=>∃l xs y,x= .ref l∧vs=[y]∧H l=some (.lst xs)∧xs.length<sizeLine∧Q .non (upd H l (.lst (xs++[y])))
theorem cR:MtM X "list.append" kI:=by
 intro pins s σ H x vs v us Q I rx rv h
 obtain⟨l,xs,y,rfl,rfl,hH,hz,q⟩:=h
 cases rx
 obtain⟨u,rfl,ru⟩:=rv.one
 obtain⟨z,its,n,r,hl,e⟩:=I.lstM hH
 refine call_meets F.slot_list_append ⟨_,e,rfl⟩ F.entry_list_append (F.args_list_append_2 _ _) (PySem.list_append l its.toArray n u (by rw[List.size_toArray];omega)) ⟨e, ?_⟩
 refine⟨.non,_,I.lset (its':=its++[u]) hH e (by simp) (r.append (.cons ru .nil)) ?_,rfl,q⟩
 rw[List.length_append,List.length_singleton]
 omega
def Dj:R2:=fun x y H Q=>∃l b xs zs,x= .ref l∧y= .ref b∧H l=some (.lst xs)∧H b=some (.lst zs)∧xs.length+zs.length≤sizeLine∧∀p,H p=none→Q (.ref p) (upd H p (.lst (xs++zs)))
theorem Bw:OpR X (binaryOp .Add) Dj:=by
 intro pins s σ H x y v u Q I rx ry h
 obtain⟨l,b,xs,zs,rfl,rfl,hH,hB,hz,q⟩:=h
 cases rx
 cases ry
 obtain⟨z,its,n,r,hl,e⟩:=I.lstM hH
 obtain⟨z2,its2,n2,r2,hl2,e2⟩:=I.lstM hB
 refine PySem.P.add_list e e2 ?_ (by rw[List.size_toArray,List.size_toArray];omega)
 have ea:its.toArray++its2.toArray=(its++its2).toArray:=by simp
 rw[ea]
 exact⟨.ref _,_,I.lnew (t':=s.toks) (r.append r2) (by rw[List.length_append];omega),rfl,q _ I.fresh⟩
def Dk:R2:=fun x y H Q=>∃l k xs,x= .ref l∧y= .int k∧H l=some (.lst xs)∧ -(2^63)≤k∧k<2^63∧xs.length*k.toNat≤sizeLine∧
 ∀p,H p=none→Q (.ref p) (upd H p (.lst (List.replicate k.toNat xs).flatten))
theorem y9{α:Type}(xs:List α)(k:Nat):(List.replicate k xs).flatten.length=k*xs.length:=by
 induction k with
 |zero=>simp
 |succ k ih=>rw[List.replicate_succ,List.flatten_cons,List.length_append,ih,Nat.succ_mul,Nat.add_comm]
theorem Bx:OpR X (binaryOp .Mult) Dk:=by
 intro pins s σ H x y v u Q I rx ry h
 obtain⟨l,k,xs,rfl,rfl,hH,h1,h2,hz,q⟩:=h
 cases rx
 obtain⟨t,rfl⟩:=ry
 obtain⟨z,its,n,r,hl,e⟩:=I.lstM hH
 have hlen:its.toArray.size*k.toNat≤sizeLine:=by rw[List.size_toArray,←hl];exact hz
 have hcap:¬its.toArray.size*k.toNat>(2^63-1)/8:=by
  have:(sizeLine:Nat)≤(2^63-1)/8:=by decide
  omega
 have hfit:¬(!Builtin.List.listFitsIndex k)=true:=by
  rw[fitsIndex_both h1 h2]
  exact Bool.false_ne_true
 have hlong:¬Builtin.List.listTooLong (its.toArray.size*k.toNat)=true:=by
  rw[wb hlen]
  exact Bool.false_ne_true
 have hnew:List.foldl (fun x1 x2=>x1++x2) #[] (List.replicate (if its.toArray.isEmpty=true then 0 else k.toNat) its.toArray)=(List.replicate k.toNat its).flatten.toArray:=by
  have f0:∀m:Nat,List.foldl (fun x1 x2=>x1++x2) #[] (List.replicate m its.toArray)=(List.replicate m its).flatten.toArray:=fun m=>by
   have:=pi its m []
   rw[List.nil_append] at this
   exact this
  rw[f0]
  cases its with
  |nil=>simp
  |cons a r'=>rw[if_neg (by simp)]
 refine wpAny_binaryOp_repeat_ref (T:="list") (U:="int") (by decide) ⟨_,e,rfl⟩ (fun s'=>typeIs_int s' k t) noFill_list_mul F.fills_int_mul F.slot_int_rmul repeat_list F.slot_int_index.lookup
  (call_meets F.slot_int_rmul (typeIs_int s k t) F.entry_int_rmul (F.args_int_rmul_2 _ _) (int___rmul___int_list k t l its.toArray n)
   ⟨e,rfl,⟨_,e,rfl⟩,call_meets F.slot_list_mul ⟨_,e,rfl⟩ F.entry_list_mul (F.args_list_mul_2 _ _) (AutoListH.list___mul___list_int_3 l its.toArray n k t hfit hcap hlong) ⟨e, ?_⟩⟩)
 rw[hnew]
 exact⟨.ref _,_,I.lnew (t':=s.toks) (r.rep k.toNat) (by rw[y9,Nat.mul_comm];exact hz),rfl,q _ I.fresh⟩
end
section
variable{prog:Program}{w:World}{A:Around}{E:Value→Shared→Prop}{s:Shared}
end
section
variable{X:Cx}
end
end L2
namespace Att
open PySem PySem.W PySem.Calls PyProof.Rows
theorem mn{P:Params}{h:Heap}:∀(ns:List Int) (vs:List Value),WellAll P h vs (ns.map WData.int)→IntsAre vs ns:=by
 intro ns
 induction ns with
 |nil=>
  intro vs w
  rw[List.map_nil] at w
  cases w
  exact .nil
 |cons n ns ih=>
  intro vs w
  rw[List.map_cons] at w
  cases w with
  |cons a b=>
   cases a
   exact .cons _ _ (ih _ b)
theorem vi{l:OpenLaw}{n:Nat}(hn:l.most=some n){P:Params}{h:Heap}{args:List WData}{vals:List Value}
 (hpre:l.row.toRowW.claim.pre args=true)(hwl:WellAll P h vals args):
 ∃a vs ns,vals=[Value.ref a]∧args=[WData.list (ns.map WData.int)]∧h.get? a=some {cls:= .type "list",data:= .seq vs.toArray}∧IntsAre vs ns∧ns.length≤n:=by
 have hsh:WShape.hasAll [] args [.list .int]=true:=(pre_splitW hpre).1
 have hc:l.pre.holds [] {args:=args}=true:=(pre_splitW hpre).2
 obtain⟨d,r,rfl,h1,h2⟩:=hasAllW_cons hsh
 obtain rfl:=hasAllW_nil h2
 obtain⟨xs,rfl,h3⟩:=hasW_list h1
 obtain⟨ns,rfl⟩:=items_int h3
 have hlen:ns.length≤n:=by
  unfold OpenLaw.pre at hc
  have h4:(WTm.not (.lt (.lit (.int (n:Int))) (.len (.arg 0)))).holds [] {args:=[.list (ns.map .int)]}=true:=by
   have h4:=(holds_andW hc).1
   rw[hn] at h4
   exact h4
  have h5:=condW_of h4 (w_not (w_lt w_lit (w_len_list (w_arg rfl))))
  rw[List.length_map] at h5
  refine Nat.le_of_not_lt fun q=> ?_
  have q':(n:Int)<((ns.length:Nat):Int):=by omega
  first
   |(rw[decide_eq_true q'] at h5;exact absurd h5 (by decide))
   |(simp at h5;omega)
 cases hwl with
 |cons w1 w2=>
  cases w2
  cases w1 with
  |list ho hall=>exact⟨_,_,ns,rfl,rfl,ho,mn ns _ hall,hlen⟩
theorem vj(l:OpenLaw)(args:List WData):l.row.toRowW.claim.post args (.bool true) args=true:=
 postW_of (r:=l.row.toRowW) (X:=(true==true))
  (show WShape.has [] (.bool true) .bool=true by first|rfl|decide|simp[WShape.has,WShape.arms,WShape.armsAll])
  (show (WTm.eq .res (.lit (.bool true))).value [] {args:=args,res:=some (.bool true),after:=args}=some (.bool (true==true)) from w_eq_bool (w_res rfl) w_lit) rfl
theorem attach_call{l:OpenLaw}{n:Nat}{q:Program}{loose:List Str}{XP:(Str→Option Value)→Heap→Prop}{YP:World→Heap→Prop}{d:DefRec}
 (hn:l.most=some n)(hdf:d.params.defaults=[])
 (call:∀(w:World) (s₀ s₁:Shared) (mg mb:Str→Option Value) (fa:Addr) (o:Obj) (pm cd doc:Value) (a:Addr) (vs:List Value) (ns:List Int),
  Ground q loose [] XP w s₀ mg mb s₁.heap→YP w s₁.heap→
  s₁.heap.get? fa=some o→o.data= .func (docDef d.name d.params d.body d.scope pm cd doc)→s₁.heap.CodeRec cd d.name→mg d.name=some (.ref fa)→
  s₁.heap.get? a=some {cls:= .type "list",data:= .seq vs.toArray}→IntsAre vs ns→ns.length≤n→s₁.gens= #[]→
  codeAny (model l.prog w) callerA (.call (.ref fa) ⟨[.ref a],[]⟩) (fun r s'=>r= .ok (.ret (.bool true))∧OldK s₁.heap s'.heap∧s'.os=s₁.os∧AllBare s'.gens) s₁):
 WalkO q loose XP YP l.row.toRowW d [] (fun f vs=>PySem.call f vs):=by
 intro w s₀ s₁ mg mb G Y fa o pm cd doc dV kV ho hd hcd hD hmg hg args vals as hpre hlay hrd hwl hlo
 obtain rfl:dV= .none:=Dflts.none hD hdf
 obtain rfl:kV= .none:=Dflts.noKw hD
 obtain⟨a,vs,ns,rfl,rfl,hobj,hints,hlen⟩:=vi hn hpre hwl
 refine enter_call (codeAny_mono (call w s₀ s₁ mg mb fa o pm cd doc a vs ns G Y ho (fd_plain hd) hcd hmg hobj hints hlen hg) fun r s' hq=> ?_)
 obtain⟨rfl,h2,h3,h4⟩:=hq
 exact⟨.inl ⟨.bool true, .bool true,[],rfl,fun _=>rfl, .bool true,vj l _,fun _=>⟨List.Pairwise.nil,fun _ hm=>(nomatch hm)⟩⟩,h2,h3,h4⟩
section
variable{prog:Program}{w:World}{A:Around}{E:Value→Shared→Prop}{s:Shared}{K:Frag}
end
end Att
namespace L2
open PySem PySem.Spec PyProof.Rows
theorem pj:∀{vs:List Value} {ns:List Int},IntsAre vs ns→Vals (ns.map V.int) vs
 |_,_, .nil=> .nil
 |_,_, .cons n t h=> .cons ⟨t,rfl⟩ (pj h)
def By(H:Hp):Prop:=∀b,H b=none∨∃o xs,H b=some (.frz o (.lst xs))
theorem wf{P:Program}{w:World}{K:W.Frag}{mg mb:Str→Option Value}{CX:CXT}{k:Nat}{fa a:Addr}{fd:FuncData}{x:Str}{sp:Sp}{s₁:Shared}{vs:List Value}{ns:List Int}
 (KX:K.In s₁.heap)(hns:s₁.heap.Ns mainGlobals mg)(hb:s₁.heap.Ns builtinsNs mb)(hbb:∀x:Str,x≠"__name__"→mb x=bootBuiltins x)(hlim:s₁.heap.NoLimit)(hg:s₁.gens= #[])
 (ha:s₁.heap.get? a=some {cls:= .type "list",data:= .seq vs.toArray})(hi:IntsAre vs ns)(hl:ns.length≤sizeLine)(hr:Room k callerA)
 (F:∀base:Heap,K.In base→base.Ns mainGlobals mg→FnOk P w K mg base CX k fa fd [x] sp)(hbind:∀(s:Shared) (u:Value),BindsTo s fd ⟨[u],[]⟩ [(x,u)])
 (hsp:∀H:Hp,By H→SqL K H a (ns.map V.int)→sp [.ref a] H (fun v _=>v= .bl true) fun _ _ _=>False)
 (hCX:∀H e s',CX [] H s₁ (fun _ _ _=>False) e s'→False):
 codeAny (model P w) callerA (.call (.ref fa) ⟨[.ref a],[]⟩) (fun r s'=>r= .ok (.ret (.bool true))∧OldK s₁.heap s'.heap∧s'.os=s₁.os∧AllBare s'.gens) s₁:=by
 have rv:=pj hi
 have lenV:=hi.length
 have core:∀H:Hp,By H→SqL K H a (ns.map V.int)→HOk P w H s₁.heap→(∀b,H b≠none→b=a)→(H a≠none→K.lookup a=none)→
  codeAny (model P w) callerA (.call (.ref fa) ⟨[.ref a],[]⟩) (fun r s'=>r= .ok (.ret (.bool true))∧OldK s₁.heap s'.heap∧s'.os=s₁.os∧AllBare s'.gens) s₁:=by
  intro H hO hS hok hA hK
  have base_of:∀{b:Addr} {o:Obj},s₁.heap.get? b=some o→H b=none→(pN s₁.heap H).get? b=some o:=fun e n=>vO e n
  have noA:∀{b:Addr} {o:Obj} {es:Array DictEntry} {ep:Nat},s₁.heap.get? b=some o→o.data= .dict es ep→H b=none:=fun {b o es ep} e d=>by
   cases q:H b with
   |none=>rfl
   |some u=>
    have e':b=a:=hA b (by rw[q];simp)
    subst e'
    rw[ha] at e;cases e
    have d':Data.seq vs.toArray _=Data.dict es ep:=d
    cases d'
  have nsK:∀{b:Addr} {m:Str→Option Value},s₁.heap.Ns b m→(pN s₁.heap H).Ns b m:=fun {b m} ⟨o,es,ep,e,d,r⟩=>⟨o,es,ep,base_of e (noA e d),d,r⟩
  have hKb:K.In (pN s₁.heap H):=fun b o e=>base_of (KX b o e) (by
   cases q:H b with
   |none=>rfl
   |some u=>
    have e':b=a:=hA b (by rw[q];simp)
    subst e'
    rw[hK (by rw[q];simp)] at e;cases e)
  have hM:Mod K mg (pN s₁.heap H):=⟨hKb,nsK hns,⟨mb,nsK hb,hbb⟩,let⟨mc,h1,h2⟩:=hlim;⟨mc,nsK h1,h2⟩⟩
  have e0:Env0 P w K mg (pN s₁.heap H) callerA [] s₁ H:=⟨rfl,hM,fun b o e=>yV e,Nat.le_of_eq (u9 _ _),trivial,fun b hb=>absurd (show b∈([]:List Addr) from hb) (by simp),hok, .of_eq hg⟩
  refine codeAny_mono ((F _ hKb (nsK hns)).run callerA [] s₁ H ⟨[.ref a],[]⟩ [.ref a] [.ref a] _ _ hr e0 (hbind s₁ (.ref a)) (.cons rfl .nil) (hsp H hO hS)) fun r s' h=> ?_
  cases r with
  |error e=>exact(hCX H e s' h).elim
  |ok fl=>
   cases fl with
   |next=>exact False.elim h
   |brk=>exact False.elim h
   |cont=>exact False.elim h
   |ret u=>
    obtain⟨v,H',os,bare,un,hok',r',q⟩:=h
    have q':v= .bl true:=q
    subst q'
    obtain rfl:u=Value.bool true:=r'
    refine⟨rfl,OldK.of_keep fun b o e=> ?_,os,bare⟩
    cases q:H b with
    |none=>exact un.keep b o e q (by intro z;exact absurd (show b∈([]:List Addr) from z) (by simp)) (by simp)
    |some u=>
     rcases hO b with z|⟨ob,xs,z⟩
     · rw[q] at z;cases z
     · have z2:=un.frzs b ob _ z
       obtain⟨e1,_⟩:=hok b _ z
       obtain⟨e2,_⟩:=hok' b _ z2
       rw[e] at e1;cases e1
       exact e2
 cases hk:K.lookup a with
 |some o=>
  have e:=KX a o hk
  rw[ha] at e
  cases e
  refine core (fun _=>none) (fun _=> .inl rfl) (.inr ⟨_,vs.toArray,_,hk,rfl,rfl,rfl,by rw[List.size_toArray,lenV];exact hl,by simpa using rv⟩) (fun b u z=>by have z':(none:Option HO)=some u:=z;cases z') (fun b z=>absurd rfl z) fun z=>absurd rfl z
 |none=>
  refine core (fun b=>if b=a then some (.frz {cls:= .type "list",data:= .seq vs.toArray} (.lst (ns.map V.int))) else none) (fun b=> ?_) (.inl (.inr ⟨{cls:= .type "list",data:= .seq vs.toArray},if_pos rfl⟩)) (fun b u z=> ?_) (fun b z=> ?_) fun _=>hk
  · by_cases hb:b=a
    · exact .inr ⟨_,_,if_pos hb⟩
    · exact .inl (if_neg hb)
  · by_cases hb:b=a
    · have z':=(if_pos hb).symm.trans z
      cases z'
      subst hb
      exact⟨ha,by rw[List.length_map];exact hl,vs,_,rv,ha⟩
    · have z':=(if_neg hb).symm.trans z
      cases z'
  · by_cases hb:b=a
    · exact hb
    · exact absurd (if_neg hb) z
end L2
namespace L2
open PySem PySem.Spec PyProof.Rows
abbrev KOf{K:W.Frag}{h:Heap}(_:K.In h):W.Frag:=K
theorem walk_of{l:W.OpenLaw}{n k:Nat}{q:Program}{loose:List Str}{XP:(Str→Option Value)→Heap→Prop}{YP:World→Heap→Prop}{d:DefRec}{K:Params→W.Frag}{CX:World→CXT}{sp:World→Sp}{x:Str}
 (hn:l.most=some n)(hn2:n≤sizeLine)(hdf:d.params.defaults=[])(hr:Room k callerA)
 (hY:∀(w:World) (h:Heap),YP w h→(K w.params).In h)
 (F:∀(w:World) (mg:Str→Option Value) (fa:Addr) (h:Heap),(K w.params).In h→h.Ns mainGlobals mg→mg d.name=some (.ref fa)→
  ∃fd:FuncData,(∀(s:Shared) (u:Value),BindsTo s fd ⟨[u],[]⟩ [(x,u)])∧
   ∀base:Heap,(K w.params).In base→base.Ns mainGlobals mg→FnOk l.prog w (K w.params) mg base (CX w) k fa fd [x] (sp w))
 (hsp:∀(w:World) (H:Hp) (a:Addr) (ns:List Int),ns.length≤n→By H→SqL (K w.params) H a (ns.map V.int)→sp w [.ref a] H (fun v _=>v= .bl true) fun _ _ _=>False)
 (hCX:∀(w:World) (H:Hp) (s:Shared) (e:Value) (s':Shared),CX w [] H s (fun _ _ _=>False) e s'→False):
 W.WalkO q loose XP YP l.row.toRowW d [] (fun f vs=>PySem.call f vs):=by
 refine Att.attach_call hn hdf fun w s₀ s₁ mg mb fa o pm cd doc a vs ns G Y ho hd hcd hmg hobj hints hlen hg=> ?_
 have KX:=hY w _ Y
 obtain⟨fd,hb,hF⟩:=F w mg fa _ KX G.T.g hmg
 exact wf KX G.T.g G.T.b G.T.builtins G.T.nolimit hg hobj hints (Nat.le_trans hlen hn2) hr hF hb (fun H hO hS=>hsp w H a ns hlen hO hS) fun H e s'=>hCX w H s₁ e s'
end L2
namespace L2
open PySem PySem.Spec PyProof.Rows
def t7(s:Stmt)(j:Nat):Stmt:=match s with
 | .ClassDef _ _ _ body _ _ _ _ _ _ _=>body.getD j (.Pass ⟨0,0,0,0⟩)
 |_=> .Pass ⟨0,0,0,0⟩
def aT(s:Stmt):Arguments:=match s with
 | .FunctionDef _ a _ _ _ _ _ _ _ _=>a
 |_=>{posonlyargs:=[],args:=[],vararg:=none,kwonlyargs:=[],kw_defaults:=[],kwarg:=none,defaults:=[]}
def aR(s:Stmt):List Stmt:=match s with
 | .FunctionDef _ _ b _ _ _ _ _ _ _=>b
 |_=>[]
def au(s:Stmt):Scope:=match s with
 | .FunctionDef _ _ _ _ _ _ sc _ _ _=>sc
 |_=>{kind:= .function,names:=[],isGenerator:=false,isCoroutine:=false}
abbrev CX0:CXT:=fun _ _ _ _ _ _=>False
abbrev E0:XK:=fun _ _ _=>False
theorem wj{X:Cx}:kq CX0 X E0:=fun _ _ _ _ _ _ _ h=>h.elim
structure Fun(K:W.Frag)(x qual:Str)(st:Stmt)(f:Addr)(fd:FuncData):Prop where
 ex:∃(oc:Value) (od:Option Addr) (kV doc pm:Value) (an:Option Addr) (cdv ct:Value) (osl:Array (Option Value)),
  fd=W.fnOf x qual (aT st) (aR st) (au st) .none kV doc pm an cdv ct∧K.lookup f=some ⟨oc,od, .func fd,osl⟩∧W.codeIn K cdv qual=true
 kp:W.keepIn K (.ref f)=true
section
variable{P:Program}{w:World}{K:W.Frag}{mg:Str→Option Value}{base:Heap}
theorem Fun.ok{x qual:Str}{st:Stmt}{f:Addr}{fd:FuncData}{N ps:List Str}{k:Nat}{sp:Sp}(F:Fun K x qual st f fd)(S:FnScope N ps (au st))(len:∀vs H Q E,sp vs H Q E→vs.length=ps.length)
 (hbody:∀(cdv:Value) (A:Around) (outer:List Env) (s:Shared) (H:Hp) (vs:List V) (Q:VK) (E:XK),Room k (A.deeper (envOfC qual (au st) s.heap.objs.size f cdv))→sp vs H Q E→
  ∃t,PSs (oH CX0 P w K mg base N qual (au st) f cdv A outer s H E).nox (aR st) t∧t {nx:=fun _ H'=>Q .non H',rt:=Q} (start N vs) H):FnOk P w K mg base CX0 (k+1) f fd ps sp:=by
 obtain⟨oc,od,kV,doc,pm,an,cdv,ct,osl,rfl,lk,hcd⟩:=F.ex
 refine v6 lk hcd S len fun A outer s H vs Q E hr hsp=> ?_
 obtain⟨t,h,q⟩:=hbody cdv A outer s H vs Q E hr hsp
 exact⟨t,h.nox,q⟩
theorem Fun.binds{x qual:Str}{st:Stmt}{f:Addr}{fd:FuncData}{ps:List Str}(F:Fun K x qual st f fd)
 (h:∀(kV doc pm:Value) (an:Option Addr) (cdv ct:Value) (us:List Value),us.length=ps.length→bindArgs (W.fnOf x qual (aT st) (aR st) (au st) .none kV doc pm an cdv ct) ⟨us,[]⟩=pure (ps.zip us)):Binds K fd ps []:=by
 obtain⟨oc,od,kV,doc,pm,an,cdv,ct,osl,rfl,lk,hcd⟩:=F.ex
 exact .all (h kV doc pm an cdv ct)
theorem bM{x qual:Str}{st:Stmt}{f:Addr}{oc:Value}{od an:Option Addr}{osl:Array (Option Value)}{kV doc pm cdv ct:Value}(l:K.lookup f=some ⟨oc,od, .func (W.fnOf x qual (aT st) (aR st) (au st) .none kV doc pm an cdv ct),osl⟩)
 (c:W.codeIn K cdv qual=true)(k:W.keepIn K (.ref f)=true):Fun K x qual st f (W.fnOf x qual (aT st) (aR st) (au st) .none kV doc pm an cdv ct):=⟨⟨oc,od,kV,doc,pm,an,cdv,ct,osl,rfl,l,c⟩,k⟩
end
theorem vk{n:Nat}(h:n≤1000):n<sizeLine:=Nat.lt_of_le_of_lt h (by decide)
section
variable{X:Cx}
theorem pv(i:Nat){x:Str}{pos:Pos}(hN:X.N[i]? =some x:=by rfl)(hv:Vis X.env.scope x:=by first|exact Or.inl rfl|exact Or.inr (Or.inl rfl)|exact Or.inr (Or.inr rfl))(hd:(x==("__debug__":Str))=false:=by decide)
 (hcd:(x==("__classdict__":Str))=false:=by decide):PE X (.Name x pos) (iX i):=Bg hN hv hd hcd
end
theorem Bz{A B:Prop}(h:B):if false=true then A else B:=by
 rw[if_neg Bool.false_ne_true]
 exact h
def Same(H H':Hp):Prop:=∀b o,H b=some o→H' b=some o
theorem Same.refl(H:Hp):Same H H:=fun _ _ h=>h
theorem Same.trans{H H1 H2:Hp}(a:Same H H1)(b:Same H1 H2):Same H H2:=fun c o h=>b c o (a c o h)
end L2
set_option maxHeartbeats 4000000
namespace Fr
def G(a b:Int):Int:=((Int.gcd a b:Nat):Int)
def Dl(a b:Int):Int:=if b<0 then-G a b else G a b
def mk(a b:Int):Int×Int:=(a.fdiv (Dl a b),b.fdiv (Dl a b))
def low(a b:Int):Int×Int:=(a.fdiv (G a b),b.fdiv (G a b))
end Fr
namespace L2
open PySem PySem.Spec PyProof.Rows
section
variable{X:Cx}{a b c:Expr}{ta tb tc:TE}{pos:Pos}
theorem zb:OpR X (binaryOp .Mult) (rI IntMulOk fun i j=> .int (i*j)):=opI fun _ _ _ _ _ _ _ hc q=>mul_int q hc
def BA(xs ys:List V):Bool:=(List.range (min xs.length ys.length)).all (fun j=>eqV (xs.getD j .non) (ys.getD j .non))&&xs.length==ys.length
def Dm(K:W.Frag):R2:=fun x y H Q=>∃a b xs ys,x= .ref a∧y= .ref b∧SqT K H a xs∧SqT K H b ys∧xs.all flatV=true∧ys.all flatV=true∧Q (.bl (BA xs ys)) H
theorem rk{xs:List V}{us:List Value}(r:Vals xs us){j:Nat}(h:j<us.length):RelV (xs.getD j .non) us[j]:=by
 have hl:=r.length
 have hx:j<xs.length:=by omega
 obtain⟨u,e,q⟩:=r.get (i:=j) (x:=xs[j]) (by rw[List.getElem?_eq_getElem hx])
 rw[List.getElem?_eq_getElem h] at e
 cases e
 rw[List.getD_eq_getElem?_getD,List.getElem?_eq_getElem hx]
 exact q
theorem rn{p:V→Bool}{xs:List V}(h:xs.all p=true){j:Nat}(hj:j<xs.length):p (xs.getD j .non)=true:=by
 rw[List.getD_eq_getElem?_getD,List.getElem?_eq_getElem hj]
 exact List.all_eq_true.mp h _ (List.getElem_mem hj)
theorem BB(hu:X.A.units<cLine):OpR X (compareOp .Eq) (Dm X.K):=by
 intro pins s σ H x y v u Q I rx ry h
 obtain⟨p,q,xs,ys,rfl,rfl,h1,h2,f1,f2,k⟩:=h
 cases rx
 cases ry
 obtain⟨its,r,pl,hz⟩:=I.tuple h1
 obtain⟨its2,r2,pl2,hz2⟩:=I.tuple h2
 have l1:=r.length
 have l2:=r2.length
 refine SeqAt.eq_tupleAt (e:=fun j=>eqV (xs.getD j .non) (ys.getD j .non)) pl pl2 hu (fun j g1 g2=> ?_) ⟨.bl _,H,I,rfl, ?_⟩
 · have g1':j<its.length:=by simpa using g1
   have g2':j<its2.length:=by simpa using g2
   have e:=v8 (A:=X.A.in1) (s:=s) (rk r g1') (rk r2 g2') (rn f1 (by omega)) (rn f2 (by omega))
   simpa using e
 · have e:((List.range (min its.toArray.size its2.toArray.size)).all (fun j=>eqV (xs.getD j .non) (ys.getD j .non))&&its.toArray.size==its2.toArray.size)=BA xs ys:=by
    unfold BA
    rw[List.size_toArray,List.size_toArray,l1,l2]
   rw[e]
   exact k
theorem ro:CallR X (.builtin "isinstance") (fun xs H Q=>∃x T t k,xs=[x, .ty T]∧TyOf X.K H x t∧W.kitOne X.K t (.type T)=some k∧Q (.bl k) H):=by
 intro pins s σ H xs us Q I r h
 obtain⟨x,T,t,k,rfl,ty,e,q⟩:=h
 obtain⟨u,v,rfl,rx,rv⟩:=Vals.two r
 cases rv
 exact ve I rx ty e fun tk=>⟨.bl k,H,I.tok _,rfl,q⟩
end
section
variable{X:Cx}{a b c:Expr}{ta tb tc:TE}{pos:Pos}
theorem BC:OpR X (compareOp .Eq) (rI0 fun i j=> .bl (decide (i=j))):=vW fun _ _ _ _ _ _ _ q=>eq_int (by rw[Bool.beq_eq_decide_eq];exact q)
theorem BD:OpR X (compareOp .NotEq) (rI0 fun i j=> .bl (!decide (i=j))):=vW fun _ _ _ _ _ _ _ q=>ne_int (by rw[bne,Bool.beq_eq_decide_eq];exact q)
def AD:R2:=fun x y H Q=>∃i j,x= .str i∧y= .str j∧i.length+j.length≤sizeLine∧Q (.str (i++j)) H
def AE:R2:=fun x y H Q=>rI0 (fun i j=> .int (i+j)) x y H Q∨AD x y H Q∨Dj x y H Q
theorem zc:OpR X (binaryOp .Add) AE:=Bk.or ((show OpR X (binaryOp .Add) AD from sx).or Bw)
theorem d4:CallR X (.builtin "len") (fun xs H Q=>(∃p ys,xs=[.ref p]∧(SqL X.K H p ys∨SqT X.K H p ys)∧Q (.int ys.length) H)∨∃z,xs=[.str z]∧z.length≤sizeLine∧Q (.int z.length) H):=pV.or pW
end
theorem cq:bootBuiltins "len"=some (.builtin "len"):=by decide+kernel
theorem bY:bootBuiltins "isinstance"=some (.builtin "isinstance"):=by decide+kernel
theorem t8:bootBuiltins "int"=some (.type "int"):=by decide+kernel
theorem BE:bootBuiltins "bool"=some (.type "bool"):=by decide+kernel
theorem t9:bootBuiltins "tuple"=some (.type "tuple"):=by decide+kernel
theorem sH:bootBuiltins "list"=some (.type "list"):=by decide+kernel
theorem ma:bootBuiltins "str"=some (.type "str"):=by decide+kernel
structure Got(P:Program)(w:World)(K:W.Frag)(mg:Str→Option Value)(base:Heap)(k:Nat)(x:Str)(ps:List Str)(sp:Sp):Prop where
 ex:∃f fd,FnOk P w K mg base CX0 k f fd ps sp∧Binds K fd ps []∧W.keepIn K (.ref f)=true∧mg x=some (.ref f)
section
variable{X:Cx}{k n:Nat}{x:Str}{ps:List Str}{sp:Sp}{p pos:Pos}{e:Expr}{es:List Expr}{t:TA}
theorem bb(g:Got X.prog X.w X.K X.mg X.base k x ps sp)(hr:Room n X.A)(hk:k≤n)(hg:Gl X x)(ha:PA X (e::es) t)(hdb:(x==("__debug__":Str))=false:=by decide)
 (he:starEach (e::es) X.env=(false,eval e X.env)::starEach es X.env:=by rfl)(hpl:(backTo pos (starEach es X.env)).any (·.1)=false:=by rfl):
 PE X (.Call (.Name x p) (e::es) [] pos) (jy sp [] E0 t):=by
 obtain⟨f,fd,F,hb,hkp,hm⟩:=g.ex
 exact t4 F (hr.mono hk) hg hm hkp hb .nil wj ha hdb he hpl
end
mutual
inductive RdD(K:W.Frag)(H:Hp):V→PyData→Prop where
 |non:RdD K H .non .none
 |bl (b:Bool):RdD K H (.bl b) (.bool b)
 |int (i:Int):RdD K H (.int i) (.int i)
 |str (x:Str):RdD K H (.str x) (.str x)
 |lst {a:Addr} {xs:List V} {ds:List PyData}:SqL K H a xs→RdDs K H xs ds→RdD K H (.ref a) (.list ds)
 |tup {a:Addr} {xs:List V} {ds:List PyData}:SqT K H a xs→RdDs K H xs ds→RdD K H (.ref a) (.tuple ds)
inductive RdDs(K:W.Frag)(H:Hp):List V→List PyData→Prop where
 |nil:RdDs K H [] []
 |cons {x:V} {xs:List V} {d:PyData} {ds:List PyData}:RdD K H x d→RdDs K H xs ds→RdDs K H (x::xs) (d::ds)
end
section
variable{X:Cx}{pins:List (Addr×Obj)}{σ:St}{H:Hp}{s:Shared}{h':Heap}
theorem RdD.reads(I:Inv X pins σ H s){x:V}{d:PyData}{u:Value}(q:RdD X.K H x d):RelV x u→∃as,Reads s.heap u d as:=
 RdD.rec (motive_1:=fun x d _=>∀u:Value,RelV x u→∃as,Reads s.heap u d as) (motive_2:=fun xs ds _=>∀us:List Value,Vals xs us→∃as,ReadsAll s.heap us ds as)
  (fun u r=>by cases r;exact⟨_, .none⟩) (fun b u r=>by cases r;exact⟨_, .bool b⟩) (fun i u r=>by obtain⟨t,rfl⟩:=r;exact⟨_, .int i t⟩) (fun x u r=>by obtain⟨t,rfl⟩:=r;exact⟨_, .str x t⟩)
  (fun h _ ih u r=>by
   cases r
   obtain⟨its,rv,⟨o,n,e,c,_,d⟩,_⟩:=I.list h
   obtain⟨as,ra⟩:=ih its rv
   exact⟨_, .list e c d (by simpa using ra)⟩)
  (fun h _ ih u r=>by
   cases r
   obtain⟨its,rv,⟨o,e,c,n,d⟩,_⟩:=I.tuple h
   obtain⟨as,ra⟩:=ih its rv
   exact⟨_, .tuple e c d (by simpa using ra)⟩)
  (fun us r=>by cases r;exact⟨_, .nil⟩)
  (fun _ _ h t us r=>by
   cases r with
   |cons r rs=>
    obtain⟨as,ra⟩:=h _ r
    obtain⟨bs,rb⟩:=t _ rs
    exact⟨_, .cons ra rb⟩) q u
def zd(K:W.Frag)(neg:Bool):R2:=fun x y H Q=>∃d e,RdD K H x d∧RdD K H y e∧SeqAt.shaped d=true∧SeqAt.shaped e=true∧Q (.bl (if neg then !(PyData.eqv d e) else PyData.eqv d e)) H
theorem BG(hu:X.A.units+64<cLine):OpR X (compareOp .Eq) (zd X.K false):=by
 intro pins s σ H x y v u Q I rx ry h
 obtain⟨d,e,h1,h2,s1,s2,q⟩:=h
 obtain⟨as,ra⟩:=h1.reads I rx
 obtain⟨bs,rb⟩:=h2.reads I ry
 exact eq_dataH ra rb s1 s2 hu ⟨.bl _,H,I,rfl,q⟩
theorem BH(hu:X.A.units+64<cLine):OpR X (compareOp .NotEq) (zd X.K true):=by
 intro pins s σ H x y v u Q I rx ry h
 obtain⟨d,e,h1,h2,s1,s2,q⟩:=h
 obtain⟨as,ra⟩:=h1.reads I rx
 obtain⟨bs,rb⟩:=h2.reads I ry
 exact ne_dataH ra rb s1 s2 hu ⟨.bl _,H,I,rfl,q⟩
theorem Inv.turnedNew{t':Nat}{ch:List Addr}{T:Addr}{o:HO}(I:Inv X pins σ H s)(k:∀b o,b∉ch→s.heap.get? b=some o→h'.get? b=some o)(hf:∀b∈ch,j5 X pins H b)
 (hT:s.heap.objs.size≤T)(new:ObjOk X.prog X.w (upd H T o) h' T o):Inv X pins σ (upd H T o) {s with heap:=h',toks:=t'}:=by
 have hn:H T=none:=I.hok.fresh hT
 have nch:∀b u,H b=some u→b∉ch:=fun b u e z=>by rw[(hf b z).1] at e;cases e
 refine I.step (g':=s.gens) (d':=s.drawn) (ch:=ch) (fun b hb=>⟨(hf b hb).2.2.2.1,(hf b hb).2.1,(hf b hb).2.2.2.2.1,(hf b hb).2.2.2.2.2⟩)
  (fun b o _ _ hc e _=>k b o hc e) (fun b o _ _ hc e _=>⟨o.slots,k b o hc e⟩)
  (fun b o _ e n=>by rw[aJ (Nat.ne_of_lt (Nat.lt_of_lt_of_le (Heap.lt_size e) hT))];exact n)
  (fun b o hc e=>⟨o,k b o hc e⟩)
  (fun b xs e=>by rw[aJ (aG e hn)];exact e) (fun b o u e=>by rw[aJ (aG e hn)];exact e)
  (fun b ps e=>⟨#[],by rw[aJ (aG e hn),e];simp⟩) (fun m hm=> ?_) (fun b u e=> ?_) I.bare
 · obtain⟨ob,es,ep,ho,r⟩:=hm
   exact⟨ob,es,ep,k _ ob (fun z=>(hf _ z).2.1 rfl) ho,r⟩
 · by_cases hb:b=T
   · subst hb;rw[aI] at e;cases e;exact new
   · rw[aJ hb] at e
     refine(I.hok b u e).stay (fun c v hc q=>k c v ?_ q) (fun c q=>by rw[aJ (aG q hn)];exact q) fun c xs q=>by rw[aJ (aG q hn)];exact q
     rcases hc with z|z
     · rw[z];exact nch b u e
     · exact nch c _ z
theorem Inv.turnedL{t':Nat}{ch:List Addr}(I:Inv X pins σ H s)(k:∀b o,b∉ch→s.heap.get? b=some o→h'.get? b=some o)(hf:∀b∈ch,j5 X pins H b):
 Inv X pins σ H {s with heap:=h',toks:=t'}:=by
 have nch:∀b u,H b=some u→b∉ch:=fun b u e z=>by rw[(hf b z).1] at e;cases e
 refine I.step (g':=s.gens) (d':=s.drawn) (ch:=ch) (fun b hb=>⟨(hf b hb).2.2.2.1,(hf b hb).2.1,(hf b hb).2.2.2.2.1,(hf b hb).2.2.2.2.2⟩)
  (fun b o _ _ hc e _=>k b o hc e) (fun b o _ _ hc e _=>⟨o.slots,k b o hc e⟩) (fun _ _ _ _ n=>n)
  (fun b o hc e=>⟨o,k b o hc e⟩) (fun _ _ e=>e) (fun _ _ _ e=>e) (fun b ps e=>⟨#[],by rw[e];simp⟩) (fun m hm=> ?_) (fun b u e=> ?_) I.bare
 · obtain⟨ob,es,ep,ho,r⟩:=hm
   exact⟨ob,es,ep,k _ ob (fun z=>(hf _ z).2.1 rfl) ho,r⟩
 · refine(I.hok b u e).stay (fun c v hc q=>k c v ?_ q) (fun _ q=>q) fun _ _ q=>q
   rcases hc with z|z
   · rw[z];exact nch b u e
   · exact nch c _ z
def Itz(K:W.Frag)(l1 l2:Addr):It:=
 ⟨fun i H=>∃xs ys,SqL K H l1 xs∧SqL K H l2 ys∧i<xs.length∧i<ys.length,
  fun i H x H'=>∃T a b,H T=none∧x= .ref T∧H'=upd H T (.tup [a,b])∧(∀xs,SqL K H l1 xs→xs[i]? =some a)∧(∀ys,SqL K H l2 ys→ys[i]? =some b),
  fun i H=>∃xs ys,SqL K H l1 xs∧SqL K H l2 ys∧(xs.length≤i∨ys.length≤i)⟩
def AG(z TI TO i1 i2 l1 l2:Addr)(i:Nat)(h:Heap):Prop:=IsZip h z TI TO .none∧IsPair h TI (.ref i1) (.ref i2)∧(∃a b,IsPair h TO a b)∧h.IsListIter i1 l1 i∧h.IsListIter i2 l2 i
theorem wk{P:Program}{w:World}{K:W.Frag}{elts:List Expr}{kk:Nat}{tpos:Pos}(z TI TO i1 i2 l1 l2:Addr)(D:ZipApart z TI TO i1 i2 l1 l2):
 Turn P w K (.Tuple elts kk tpos) (Itz K l1 l2) [z,TI,TO,i1,i2] z (AG z TI TO i1 i2 l1 l2) where
 mem:=by simp
 obj:=fun i h st b hb=>by
  obtain⟨hz,hTI,⟨a,c,hTO⟩,⟨o1,e1,_,d1⟩,⟨o2,e2,_,d2⟩⟩:=st
  simp only[List.mem_cons,List.not_mem_nil,or_false] at hb
  rcases hb with rfl|rfl|rfl|rfl|rfl
  · exact⟨_,hz,fun v q=>by cases (show Data.fields _=Data.cell v from q)⟩
  · exact⟨_,hTI,fun v q=>by cases (show Data.seq _ _=Data.cell v from q)⟩
  · exact⟨_,hTO,fun v q=>by cases (show Data.seq _ _=Data.cell v from q)⟩
  · exact⟨_,e1,fun v q=>by rw[d1] at q;cases q⟩
  · exact⟨_,e2,fun v q=>by rw[d2] at q;cases q⟩
 keep:=fun i h h' st k=>by
  obtain⟨hz,hTI,⟨a,c,hTO⟩,h1,h2⟩:=st
  exact⟨k z (by simp) _ hz,k TI (by simp) _ hTI,⟨a,c,k TO (by simp) _ hTO⟩,h1.at fun o e=>k i1 (by simp) o e,h2.at fun o e=>k i2 (by simp) o e⟩
 item:=by
  intro X hP hw hK hc i pins s σ H E I hf st hg
  subst hP hw hK
  obtain⟨xs,ys,q1,q2,g1,g2⟩:=hg
  obtain⟨its1,r1,p1,z1⟩:=I.list q1
  obtain⟨its2,r2,p2,z2⟩:=I.list q2
  obtain⟨u1,e1,ru1⟩:=r1.get (List.getElem?_eq_getElem g1)
  obtain⟨u2,e2,ru2⟩:=r2.get (List.getElem?_eq_getElem g2)
  obtain⟨hz,hTI,⟨a,c,hTO⟩,h1,h2⟩:=st
  refine wpAny_pyNext_zip_item D hz hTI hTO h1 h2 p1.isList p2.isList (x:=u1) (y:=u2) (by simpa using e1) (by simpa using e2) fun h1' a1 a2 a3 a4 a5 a6 hk=>⟨_,rfl, ?_⟩
  refine wpAny_letOwnedTupleGo_zip a1 fun h2' hz' hs'=> ?_
  have lt:∀{c o},s.heap.get? c=some o→s.heap.objs.size≠c:=fun e=>Nat.ne_of_gt (Heap.lt_size e)
  have Tz:s.heap.objs.size≠z:=lt hz
  have kz:∀b o,b≠z→h1'.get? b=some o→h2'.get? b=some o:=fun b o hb e=>hs'.extBut _ _ hb e
  have I':Inv X pins σ (upd H s.heap.objs.size (.tup [xs[i],ys[i]])) {s with heap:=h2'}:=by
   refine I.turnedNew (t':=s.toks) (ch:=[z,TO,i1,i2]) (fun b o hb e=> ?_) (fun b hb=>hf b (by
    simp only[List.mem_cons,List.not_mem_nil,or_false] at hb ⊢
    rcases hb with rfl|rfl|rfl|rfl<;>simp)) (Nat.le_refl _) ?_
   · simp only[List.mem_cons,List.not_mem_nil,or_false,not_or] at hb
     exact kz b o hb.1 (hk b o hb.1 hb.2.1 hb.2.2.1 hb.2.2.2 e)
   · exact⟨(by show 2≤sizeLine;decide),[u1,u2], .cons ru1 (.cons ru2 .nil),_,kz _ _ Tz a5,rfl,_,rfl⟩
  refine⟨.ref s.heap.objs.size,_,I',rfl,⟨s.heap.objs.size,xs[i],ys[i],I.hok.fresh (Nat.le_refl _),rfl,rfl,fun xs' q'=> ?_,fun ys' q'=> ?_⟩,⟨hz', ?_,⟨_,_,kz _ _ D.TOz a2⟩, ?_, ?_⟩,fun b hb=> ?_⟩
  · rw[I.list_inj q' q1];exact List.getElem?_eq_getElem g1
  · rw[I.list_inj q' q2];exact List.getElem?_eq_getElem g2
  · exact kz _ _ D.TIz (hk _ _ D.TIz D.TITO D.TIi1 D.TIi2 hTI)
  · exact a3.at fun o e=>kz _ _ D.i1z e
  · exact a4.at fun o e=>kz _ _ D.i2z e
  · have n:=(hf b hb).1
    simp only[List.mem_cons,List.not_mem_nil,or_false] at hb
    have ob:∃o,s.heap.get? b=some o:=by
     obtain⟨o1,x1,_⟩:=h1
     obtain⟨o2,x2,_⟩:=h2
     rcases hb with rfl|rfl|rfl|rfl|rfl
     · exact⟨_,hz⟩
     · exact⟨_,hTI⟩
     · exact⟨_,hTO⟩
     · exact⟨_,x1⟩
     · exact⟨_,x2⟩
    obtain⟨o,eo⟩:=ob
    rw[aJ (Ne.symm (lt eo))]
    exact n
 done:=by
  intro X hP hw hK hc i pins s σ H E I hf st hg
  subst hP hw hK
  obtain⟨xs,ys,q1,q2,g⟩:=hg
  obtain⟨its1,r1,p1,z1⟩:=I.list q1
  obtain⟨its2,r2,p2,z2⟩:=I.list q2
  obtain⟨hz,hTI,⟨a,c,hTO⟩,h1,h2⟩:=st
  have l1':=r1.length
  have l2':=r2.length
  have hend:its1.toArray[i]? =none∨its2.toArray[i]? =none:=by
   rcases g with g|g
   · exact .inl (Array.getElem?_eq_none (by rw[List.size_toArray];omega))
   · exact .inr (Array.getElem?_eq_none (by rw[List.size_toArray];omega))
  refine wpAny_pyNext_zip_end (I.ok.hd hc) D hz hTI hTO h1 h2 p1.isList p2.isList hend fun h' hk=>⟨rfl, ?_⟩
  refine I.turnedL (t':=s.toks) (ch:=[z,TO,i1,i2]) (fun b o hb e=> ?_) (fun b hb=>hf b (by
   simp only[List.mem_cons,List.not_mem_nil,or_false] at hb ⊢
   rcases hb with rfl|rfl|rfl|rfl<;>simp))
  simp only[List.mem_cons,List.not_mem_nil,or_false,not_or] at hb
  exact hk b o hb.1 hb.2.1 hb.2.2.1 hb.2.2.2 e
 self:=fun _ _ _ _ _ st h=>wpAny_pyIter_zip st.1 h
end
def BI(K:W.Frag)(ta:TA):TI:=fun σ H R=>ta σ H fun vs H1=>∃l1 l2 xs ys,vs=[.ref l1, .ref l2]∧SqL K H1 l1 xs∧SqL K H1 l2 ys∧R (Itz K l1 l2) H1
theorem lF{n l1 l2:Nat}(h1:l1<n)(h2:l2<n):ZipApart (n+4) (n+2) (n+3) n (n+1) l1 l2:=by
 constructor<;>first|exact Nat.ne_of_lt (by omega)|exact Nat.ne_of_gt (by omega)
theorem BJ{X:Cx}{a b:Expr}{ta:TA}{p pos tpos:Pos}{elts:List Expr}{kk:Nat}(hg:Gl X "zip")(hm:X.mg "zip"=none)(ha:PA X [a,b] ta)(hs:starEach [a,b] X.env=[(false,eval a X.env),(false,eval b X.env)]:=by rfl)(hs2:starEach [b] X.env=[(false,eval b X.env)]:=by rfl):
 PI X (.Tuple elts kk tpos) (.Call (.Name "zip" p) [a,b] [] pos) (BI X.K ta):=by
 intro pins s σ H R I h
 refine Call_ (kn I hg hm (show bootBuiltins "zip"=some (.type "zip") from by decide+kernel) (PyProof.Rows.callWith_type1 (thn (ha pos pins s σ H _ I h) fun us s1 ⟨vs,H1,I1,r1,q1⟩=> ?_) (by rw[hs,hs2]) (by rw[hs2];rfl)))
 obtain⟨l1,l2,xs,ys,e,q1,q2,q⟩:=q1
 subst e
 obtain⟨u1,u2,rfl,ru1,ru2⟩:=r1.two
 cases ru1
 cases ru2
 obtain⟨its1,v1,p1,z1⟩:=I1.list q1
 obtain⟨its2,v2,p2,z2⟩:=I1.list q2
 have b1:l1<s1.heap.objs.size:=by obtain⟨o,n,e,_⟩:=p1;exact Heap.lt_size e
 have b2:l2<s1.heap.objs.size:=by obtain⟨o,n,e,_⟩:=p2;exact Heap.lt_size e
 refine call_zip_2 p1.isList p2.isList fun h' hz hTI hTO h1 h2 sz hk=> ?_
 have D:=lF b1 b2
 refine wpAny_pyIter_zip hz ?_
 refine⟨_,_,AG _ _ _ _ _ _ _,_,H1,rfl,I1.kept (t':=s1.toks) hk,wk _ _ _ _ _ _ _ D,⟨hz,hTI,⟨_,_,hTO⟩,h1,h2⟩,fun b hb=> ?_,q⟩
 have hb':s1.heap.objs.size≤b:=by
  simp only[List.mem_cons,List.not_mem_nil,or_false] at hb
  rcases hb with rfl|rfl|rfl|rfl|rfl
  · exact Nat.le_add_right _ _
  · exact Nat.le_add_right _ _
  · exact Nat.le_add_right _ _
  · exact Nat.le_refl _
  · exact Nat.le_add_right _ _
 exact I1.fpOk hb' (I1.hok.fresh hb')
section
variable{X:Cx}
def BK(K:W.Frag):R2:=fun x y H Q=>rI0 (fun i j=> .bl (decide (i=j))) x y H Q∨Dm K x y H Q∨rEq x y H Q∨zd K false x y H Q
theorem cK(hu:X.A.units+64<cLine):OpR X (compareOp .Eq) (BK X.K):=BC.or ((BB (by omega)).or (Da.or (BG hu)))
def BL(K:W.Frag):R2:=fun x y H Q=>rI0 (fun i j=> .bl (!decide (i=j))) x y H Q∨rNe x y H Q∨zd K true x y H Q
theorem mQ(hu:X.A.units+64<cLine):OpR X (compareOp .NotEq) (BL X.K):=BD.or (Db.or (BH hu))
end
theorem mR{α β:Type}{f:α→β→Sem (ForInStep β)}(g:β→α→β):∀(l:List α) (b:β),(∀x∈l,∀c,f x c=pure (.yield (g c x)))→forIn l b f=pure (l.foldl g b)
 |[],_,_=>rfl
 |x::l,b,h=>by
  rw[List.forIn_cons,h x List.mem_cons_self,pure_bind]
  exact mR g l (g b x) fun y hy=>h y (List.mem_cons_of_mem _ hy)
def jd(cells:List (Str×Addr))(cs:List (Str×Addr))(x:Str×NameKind):List (Str×Addr):=if(x.2==NameKind.free)=true then(x.1,(cells.lookup x.1).getD 0)::cs else cs
theorem ua{cells:List (Str×Addr)}:∀(names:List (Str×NameKind)) (cs:List (Str×Addr)),(∀x∈names,x.2=NameKind.free→∃c,cells.lookup x.1=some c)→(∀x c,cs.lookup x=some c→cells.lookup x=some c)→
 (∀x c,(names.foldl (jd cells) cs).lookup x=some c→cells.lookup x=some c)∧(∀x,((∃c,cs.lookup x=some c)∨(x,NameKind.free)∈names)→∃c,(names.foldl (jd cells) cs).lookup x=some c)
 |[],cs,_,h=>⟨h,fun x q=>by
  rcases q with q|q
  · exact q
  · cases q⟩
 |(n,k)::r,cs,hf,h=>by
  have step:∀x c,(jd cells cs (n,k)).lookup x=some c→cells.lookup x=some c:=fun x c e=>by
   unfold jd at e
   by_cases hk:((n,k).2==NameKind.free)=true
   · rw[if_pos hk] at e
     obtain⟨c0,hc0⟩:=hf (n,k) List.mem_cons_self (by simpa using hk)
     by_cases hx:x=n
     · subst hx
       rw[List.lookup_cons_self] at e
       rw[hc0] at e ⊢
       exact e
     · have:(x==n)=false:=by simpa using hx
       rw[List.lookup_cons,this] at e
       exact h x c e
   · rw[if_neg hk] at e
     exact h x c e
  obtain⟨a,b⟩:=ua r (jd cells cs (n,k)) (fun x hx=>hf x (List.mem_cons_of_mem _ hx)) step
  refine⟨a,fun x q=>b x ?_⟩
  rcases q with⟨c,q⟩|q
  · left
    unfold jd
    by_cases hk:((n,k).2==NameKind.free)=true
    · rw[if_pos hk]
      by_cases hx:x=n
      · subst hx;exact⟨_,List.lookup_cons_self⟩
      · have:(x==n)=false:=by simpa using hx
        exact⟨c,by rw[List.lookup_cons,this];exact q⟩
    · rw[if_neg hk];exact⟨c,q⟩
  · rcases List.mem_cons.mp q with q|q
    · left
      cases q
      unfold jd
      rw[if_pos (by rfl)]
      exact⟨_,List.lookup_cons_self⟩
    · exact .inr q
theorem mT{scope:Scope}{env:Env}(h:∀x∈scope.names,x.2=NameKind.free→∃c,env.cells.lookup x.1=some c):
 ∃cl,closureFor scope env=pure cl∧(∀x c,cl.lookup x=some c→env.cells.lookup x=some c)∧(∀x,(x,NameKind.free)∈scope.names→∃c,cl.lookup x=some c):=by
 obtain⟨a,b⟩:=ua (cells:=env.cells) scope.names [] h (fun x c e=>by simp at e)
 refine⟨_, ?_,a,fun x q=>b x (.inr q)⟩
 simp only[closureFor]
 rw[mR (jd env.cells) _ _ (fun x hx c=>by
  obtain⟨n,kind⟩:=x
  unfold jd
  cases hk:(kind==NameKind.free) with
  |false=>simp only[hk,Bool.false_eq_true,if_false]
  |true=>
   obtain⟨c0,hc0⟩:=h (n,kind) hx (by simpa using hk)
   simp only[hk,if_true,cellOf]
   rw[show List.lookup n env.cells=some c0 from hc0]
   rfl)]
 rfl
def bJ(X:Cx)(scope:Scope)(N:List Str)(cl:List (Str×Addr))(C:Addr)(s₀:Shared)(H₀:Hp)(ex:List Addr):Cx where
 prog:=X.prog
 w:=X.w
 K:=X.K
 mg:=X.mg
 base:=X.base
 A:=X.A
 N:=N
 s₀:=s₀
 H₀:=H₀
 env:=compEnvC scope cl C X.env
 outer:=X.stack
 stack:=X.stack
 ex:=ex
 fn:=fun _=>false
 calm:=X.calm
 pn:=[]
 xe:=fun _ _=>False
def wn(X:Cx)(ifs:List Expr)(t:TT):Prop:=∀(pins:List (Addr×Obj)) (s:Shared) (σ:St) (H:Hp) (Q:Bool→Hp→Prop),Inv X pins σ H s→t σ H Q→
 wpAny (model X.prog X.w) X.A (forIn ifs true fun c r=>if r=true then do let ok ←isTrue c X.env (eval c X.env);pure (ForInStep.yield ok) else pure (ForInStep.yield r)) (TP X pins σ Q) X.xe s
def Dn:TT:=fun _ H Q=>Q true H
theorem gS{X:Cx}:wn X [] Dn:=fun _ _ _ H _ I h=>wpAny_tests_nil ⟨H,I,h⟩
def mU(cap:List Nat)(x:Option V)(σ:St):St:=x::cap.map fun i=>(σ[i]?).join
def wo(J:It)(tc:TT)(te:TE)(cap:List Nat)(σ:St)(Q:VK)(H1:Hp):Prop:=∀acc,H1 acc=none→∃W:Nat→Nat→Hp→Prop,(∃m,W 0 m (upd H1 acc (.lst [])))∧∀i m H,W i m H→
 (J.stop i H∧Q (.ref acc) H)∨(J.go i H∧∀x H',J.yld i H x H'→tc (mU cap (some x) σ) H' fun b H3=>if b=true then te (mU cap (some x) σ) H3 fun y H4=>∃ys,H4 acc=some (.lst ys)∧ys.length<sizeLine∧∃m',m'<m∧W (i+1) m' (upd H4 acc (.lst (ys++[y]))) else ∃m',m'<m∧W (i+1) m' H3)
def wp(wi:TI)(tc:TT)(te:TE)(cap:List Nat):TE:=fun σ H Q=>wi σ H fun J H1=>wo J tc te cap σ Q H1
theorem cy{env:Env}:∀{names:List (Str×NameKind)} {x:Str},names.lookup x=some .free→
 (names.map fun(n,k)=>if(k==NameKind.free&&env.scope.kind== .function&&env.kindOf n==some .cell) then(n,NameKind.cell) else(n,k)).lookup x=some .cell∨
 (names.map fun(n,k)=>if(k==NameKind.free&&env.scope.kind== .function&&env.kindOf n==some .cell) then(n,NameKind.cell) else(n,k)).lookup x=some .free
 |[],_,h=>by simp at h
 |(n,k)::r,x,h=>by
  have ih:=@cy env r x
  show List.lookup x ((if(k==NameKind.free&&env.scope.kind== .function&&env.kindOf n==some .cell)=true then(n,NameKind.cell) else(n,k))::_)=_∨
   List.lookup x ((if(k==NameKind.free&&env.scope.kind== .function&&env.kindOf n==some .cell)=true then(n,NameKind.cell) else(n,k))::_)=_
  cases hx:x==n with
  |true=>
   simp only[List.lookup_cons,hx] at h
   cases h
   by_cases hc:(NameKind.free==NameKind.free&&env.scope.kind== .function&&env.kindOf n==some .cell)=true
   · rw[if_pos hc];left;simp[List.lookup_cons,hx]
   · rw[if_neg hc];right;simp[List.lookup_cons,hx]
  |false=>
   simp only[List.lookup_cons,hx] at h
   by_cases hc:(k==NameKind.free&&env.scope.kind== .function&&env.kindOf n==some .cell)=true
   · rw[if_pos hc];simp only[List.lookup_cons,hx];exact ih h
   · rw[if_neg hc];simp only[List.lookup_cons,hx];exact ih h
theorem ik{env:Env}:∀{names:List (Str×NameKind)} {x:Str},(∀y∈names,y.2≠ .cell)→
 ((names.map fun(n,k)=>if(k==NameKind.free&&env.scope.kind== .function&&env.kindOf n==some .cell) then(n,NameKind.cell) else(n,k)).lookup x=some .cell∨
 (names.map fun(n,k)=>if(k==NameKind.free&&env.scope.kind== .function&&env.kindOf n==some .cell) then(n,NameKind.cell) else(n,k)).lookup x=some .free)→(x,NameKind.free)∈names
 |[],_,_,h=>by simp at h
 |(n,k)::r,x,hcell,h=>by
  have ih:=@ik env r x (fun y hy=>hcell y (List.mem_cons_of_mem _ hy))
  have hk:=hcell (n,k) List.mem_cons_self
  cases hx:x==n with
  |true=>
   have e:x=n:=by simpa using hx
   subst e
   by_cases hc:(k==NameKind.free&&env.scope.kind== .function&&env.kindOf x==some .cell)=true
   · have:k= .free:=by
      rw[Bool.and_eq_true,Bool.and_eq_true] at hc
      simpa using hc.1.1
     subst this
     exact List.mem_cons_self
   · have h':List.lookup x ((if(k==NameKind.free&&env.scope.kind== .function&&env.kindOf x==some .cell)=true then(x,NameKind.cell) else(x,k))::(r.map fun(n,k)=>if(k==NameKind.free&&env.scope.kind== .function&&env.kindOf n==some .cell) then(n,NameKind.cell) else(n,k)))=some .cell∨
      List.lookup x ((if(k==NameKind.free&&env.scope.kind== .function&&env.kindOf x==some .cell)=true then(x,NameKind.cell) else(x,k))::(r.map fun(n,k)=>if(k==NameKind.free&&env.scope.kind== .function&&env.kindOf n==some .cell) then(n,NameKind.cell) else(n,k)))=some .free:=h
     rw[if_neg hc,List.lookup_cons_self] at h'
     rcases h' with h'|h'
     · exact absurd (Option.some.inj h') hk
     · have:=Option.some.inj h'
       subst this
       exact List.mem_cons_self
  |false=>
   refine List.mem_cons_of_mem _ (ih ?_)
   have h':List.lookup x ((if(k==NameKind.free&&env.scope.kind== .function&&env.kindOf n==some .cell)=true then(n,NameKind.cell) else(n,k))::(r.map fun(n,k)=>if(k==NameKind.free&&env.scope.kind== .function&&env.kindOf n==some .cell) then(n,NameKind.cell) else(n,k)))=some .cell∨
    List.lookup x ((if(k==NameKind.free&&env.scope.kind== .function&&env.kindOf n==some .cell)=true then(n,NameKind.cell) else(n,k))::(r.map fun(n,k)=>if(k==NameKind.free&&env.scope.kind== .function&&env.kindOf n==some .cell) then(n,NameKind.cell) else(n,k)))=some .free:=h
   by_cases hc:(k==NameKind.free&&env.scope.kind== .function&&env.kindOf n==some .cell)=true
   · rw[if_pos hc] at h';simp only[List.lookup_cons,hx] at h';exact h'
   · rw[if_neg hc] at h';simp only[List.lookup_cons,hx] at h';exact h'
section
variable{X:Cx}{pins:List (Addr×Obj)}{σ:St}{H:Hp}{s:Shared}
structure CompScope(X:Cx)(scope:Scope)(x:Str)(cn:List Str)(cap:List Nat):Prop where
 kind:scope.kind= .function
 names:∀y∈scope.names,y.2= .local→scope.names.lookup y.1=some .local
 cell:∀y∈scope.names,y.2≠ .cell
 own:scope.names.lookup x=some .local
 free:∀y∈scope.names,y.2= .free→X.env.kindOf y.1=some .cell∨X.env.kindOf y.1=some .free
 cap:cap.map (fun i=>X.N[i]?)=cn.map some
 capf:∀y∈cn,scope.names.lookup y=some .free
 capo:∀y∈cn,X.env.scope.names.lookup y=some .cell∨X.env.scope.names.lookup y=some .free
 nd:(x::cn).Nodup
theorem ze{scope:Scope}{x:Str}{cn:List Str}{cap:List Nat}{cl:List (Str×Addr)}{C:Addr}{fp:List Addr}(S:CompScope X scope x cn cap)(I:Inv X pins σ H s)(hf:∀b∈fp,j5 X pins H b)(hlt:∀b∈fp,b<s.heap.objs.size)
 (hc1:∀y c,cl.lookup y=some c→X.env.cells.lookup y=some c)(hc2:∀y,(y,NameKind.free)∈scope.names→∃c,cl.lookup y=some c)(hC:s.heap.objs.size≤C):(bJ X scope (x::cn) cl C s H fp).Ok where
 mod:=I.ok.mod
 kind:=S.kind
 glob:=I.ok.glob
 blt:=I.ok.blt
 above:=hC
 inj:=fun y z c h1 h2=>I.ok.inj y z c (hc1 y c h1) (hc1 z c h2)
 has:=fun y h=>hc2 y (ik (env:=X.env) S.cell h)
 cab:=fun y c h=>by cases (show false=true from h)
 hd:=I.ok.hd
 frames:=I.ok.frames
 stk:= .inl rfl
 exf:=fun b hb=>⟨Nat.ne_of_lt (Nat.lt_of_lt_of_le (hlt b hb) hC),fun y c h=>(hf b hb).2.2.2.2.1 y c (hc1 y c h)⟩
 bs:=I.bs
 bsz:=Nat.le_trans I.ok.bsz I.sz
 noex:=fun b o e hb=>by
  rcases(hf b hb).2.2.2.1 with z|z
  · exact I.ok.noex b o e z
  · have h1:=Heap.lt_size e
    exact absurd (Nat.lt_of_lt_of_le h1 (Nat.le_trans I.ok.bsz z)) (Nat.lt_irrefl _)
 exfs:=fun b hb z=>by
  rcases List.mem_cons.mp (I.stkSub b z) with q|q
  · exact(hf b hb).2.1 q
  · exact(hf b hb).2.2.1 q
 funs:=I.stack
 frf:=I.stkFree
theorem ub{α β:Type}{l:List α}{f:α→Option β}{m:List β}(h:l.map f=m.map some):∀{j:Nat} {y:β},m[j]? =some y→∃i,l[j]? =some i∧f i=some y:=by
 intro j y e
 have h2:=congrArg (fun z=>z[j]?) h
 simp only[List.getElem?_map] at h2
 rw[e] at h2
 cases q:l[j]? with
 |none=>rw[q] at h2;cases h2
 |some i=>
  rw[q] at h2
  exact⟨i,rfl,by simpa using h2⟩
theorem vm{elt iter:Expr}{x:Str}{px:Pos}{ifs:List Expr}{scope:Scope}{pos:Pos}{wi:TI}{tc:TT}{te:TE}(cn:List Str)(cap:List Nat)(S:CompScope X scope x cn cap)(hc:X.calm=true)
 (hi:PI X (.Name x px) iter wi)(hin:∀cl C s₀ H₀ ex,wn (bJ X scope (x::cn) cl C s₀ H₀ ex) ifs tc)(he:∀cl C s₀ H₀ ex,PE (bJ X scope (x::cn) cl C s₀ H₀ ex) elt te)
 (hs:∀z,foldedSetIterable iter X.env z=pure z){use:Option (Value→Sem Unit)}{Q:VK}{Q':Value→Shared→Prop}{pins:List (Addr×Obj)}{s:Shared}{σ:St}{H:Hp}(I:Inv X pins σ H s)(h:wp wi tc te cap σ H Q)
 (fin:∀(d C:Addr) (H':Hp) (s':Shared) (m:_),Inv X pins σ H' s'→j5 X pins H' C→s'.heap.Ns C m→Q (.ref d) H'→∀r,compPost (model X.prog X.w) X.A X.xe use Q' (.ref d) C (.ok r) s'):
 wpAny (model X.prog X.w) X.A (comprehension (.ListComp elt [⟨.Name x px,iter,ifs,0⟩] scope pos) scope X.env (firstIterPos [⟨.Name x px,iter,ifs,0⟩] pos) (newList []) false (firstIter [⟨.Name x px,iter,ifs,0⟩] X.env) use) Q' X.xe s:=by
 obtain⟨cl,hclos,hc1,hc2⟩:=mT (scope:=scope) (env:=X.env) fun y hy hk=>I.ok.has y.1 (S.free y hy hk)
 refine wpAny_comprehension_free (use:=use) rfl hs hclos S.kind S.names (thn (hi pins s σ H _ I h) fun v s1 h1=>thn h1 fun itv s2 h2=> ?_)
 obtain⟨it,fp,tn,J,H2,e,I2,T,st2,f2,q2⟩:=h2
 subst e
 have hlt:∀b∈fp,b<s2.heap.objs.size:=fun b hb=>by
  obtain⟨o,e,_⟩:=T.obj _ _ st2 b hb
  exact Heap.lt_size e
 refine wpAny_newObj_type (wpAny_newFunctionEnv S.cell (by intro y hy;simp at hy) (fun h₁ hns₁ hsb₁=> ?_) S.kind)
 dsimp only at hns₁ hsb₁ ⊢
 generalize hP:s2.heap.push {cls:= .type "list",dict:=none,data:= .seq ([]:List Value).toArray}=P2 at hns₁ hsb₁ ⊢
 have hC:P2.objs.size=s2.heap.objs.size+1:=by rw[←hP,Heap.size_push]
 have hDC:s2.heap.objs.size≠P2.objs.size:=by rw[hC];exact Nat.ne_of_lt (Nat.lt_succ_self _)
 have hCle:s2.heap.objs.size≤P2.objs.size:=by rw[hC];exact Nat.le_succ _
 have neC:∀b,b<s2.heap.objs.size→b≠P2.objs.size:=fun b hb=>by rw[hC];exact Nat.ne_of_lt (Nat.lt_succ_of_lt hb)
 have old:∀b o,s2.heap.get? b=some o→h₁.get? b=some o:=fun b o e=>hsb₁.extBut b o (neC b (Heap.lt_size e)) (Heap.get?_push_of_some _ (hP▸Heap.get?_push_of_some _ e))
 have hacc:h₁.get? s2.heap.objs.size=some {cls:= .type "list",dict:=none,data:= .seq ([]:List Value).toArray}:=hsb₁.extBut _ _ hDC (Heap.get?_push_of_some _ (hP▸Heap.get?_push_size _ rfl))
 have hD0:H2 s2.heap.objs.size=none:=I2.hok.fresh (Nat.le_refl _)
 have ok':(bJ X scope (x::cn) cl P2.objs.size s2 H2 fp).Ok:=ze S I2 f2 hlt hc1 hc2 hCle
 obtain⟨W,⟨m0,w0⟩,turn⟩:=q2 _ hD0
 have hok1:HOk X.prog X.w (upd H2 s2.heap.objs.size (.lst [])) h₁:=I2.hok.laid old (Nat.le_refl _) ⟨Nat.zero_le _,[],_, .nil,hacc⟩
 have un1:Un (frs X.stack) fp H2 (upd H2 s2.heap.objs.size (.lst [])) s2.heap h₁:=Un.laid old (Nat.le_refl _) hD0
 have I4:∀tk,Inv (bJ X scope (x::cn) cl P2.objs.size s2 H2 fp) [] (mU cap none σ) (upd H2 s2.heap.objs.size (.lst [])) {s2 with heap:=h₁,toks:=tk}:=fun tk=>by
  refine⟨ok',rfl,I2.bare,un1,⟨_,hns₁,fun i y v e1 e2 e3=> ?_⟩,fun y c e=> ?_, ?_,fun y c e=> ?_,fun p hp=>(nomatch hp),hok1, ?_⟩
  · cases i with
    |zero=>cases (show (none:Option V)=some v from Option.some.inj e2)
    |succ j=>
     have e1':cn[j]? =some y:=e1
     have ymem:y∈cn:=List.mem_of_getElem? e1'
     obtain⟨i0,ci,ni⟩:=ub S.cap e1'
     have e2':(cap.map fun i=>(σ[i]?).join)[j]? =some (some v):=e2
     rw[List.getElem?_map,ci] at e2'
     have e3':(σ[i0]?).join=some v:=Option.some.inj e2'
     have e4:σ[i0]? =some (some v):=by
      cases q:σ[i0]? with
      |none=>rw[q] at e3';cases e3'
      |some o=>rw[q] at e3';exact congrArg some e3'
     obtain⟨m,hn,hl⟩:=I2.loc
     have vis:Vis X.env.scope y:= .inr (S.capo y ymem)
     obtain⟨u,r,lk⟩:=hl i0 y v ni e4 vis
     refine⟨u,r, .inr ⟨cy (env:=X.env) (S.capf y ymem), ?_⟩⟩
     rcases lk with⟨kl,_⟩|⟨_,c,ec,hcell⟩
     · rcases S.capo y ymem with z|z
       · have kl':X.env.scope.names.lookup y=some .local:=kl
         rw[z] at kl';cases kl'
       · have kl':X.env.scope.names.lookup y=some .local:=kl
         rw[z] at kl';cases kl'
     · have fm:(y,NameKind.free)∈scope.names:=ik (env:=X.env) S.cell (cy (env:=X.env) (S.capf y ymem))
       obtain⟨c',ec'⟩:=hc2 y fm
       have:=hc1 y c' ec'
       rw[ec] at this
       cases this
       obtain⟨o,ho,hd⟩:=hcell
       exact⟨c,ec',o,old _ _ ho,hd⟩
  · obtain⟨v,o,ho,hd⟩:=I2.cell y c (hc1 y c e)
    exact⟨v,o,old _ _ ho,hd⟩
  · show (upd H2 s2.heap.objs.size (.lst [])) P2.objs.size=none
    rw[aJ (Ne.symm hDC)]
    exact I2.hok.fresh hCle
  · obtain⟨v,o,ho,hd⟩:=I2.cell y c (hc1 y c e)
    rw[aJ (Nat.ne_of_lt (Heap.lt_size ho))]
    exact I2.freeC y c (hc1 y c e)
  · show (mU cap none σ).length=(x::cn).length
    have:=congrArg List.length S.cap
    simp only[List.length_map] at this
    simp[mU,this]
 have stat:∀{H':Hp},(∀b∈fp,H' b=none)→∀b∈fp,j5 (bJ X scope (x::cn) cl P2.objs.size s2 H2 fp) [] H' b:=fun hn b hb=>
  ⟨hn b hb,neC b (hlt b hb),ok'.exfs b hb, .inl hb,fun y c e=>(ok'.exf b hb).2 y c e,fun p hp=>(nomatch hp)⟩
 have pgx:PG (bJ X scope (x::cn) cl P2.objs.size s2 H2 fp) (.Name x px) (iD 0):=dC (i:=0) S.nd rfl (.inl (lookup_relabel_local (env:=X.env) S.own)) (.inr (lookup_relabel_local (env:=X.env) S.own))
 have loop:∀s₃:Shared,s₃={s2 with heap:=h₁,toks:=s2.toks+([]:List (Str×Value)).length}→
  codeAny (model X.prog X.w) X.A (.compLoop (.ListComp elt [⟨.Name x px,iter,ifs,0⟩] scope pos) 0 (.ref it) (.ref s2.heap.objs.size) (compEnvC scope cl P2.objs.size X.env))
   (compPost (model X.prog X.w) X.A X.xe use Q' (.ref s2.heap.objs.size) P2.objs.size) s₃:=by
  rintro s₃ rfl
  refine codeAny_loop rfl (fun n s'=>∃i H',Inv (bJ X scope (x::cn) cl P2.objs.size s2 H2 fp) [] (mU cap none σ) H' s'∧tn i s'.heap∧(∀b∈fp,H' b=none)∧W i n H') ?_ m0
   ⟨0,_,I4 _,T.keep _ _ _ st2 fun b hb o e=>old b o e,fun b hb=>by rw[aJ (Nat.ne_of_lt (hlt b hb))];exact(f2 b hb).1,w0⟩
  rintro n s3 ⟨i,H3,I3,st3,fr3,w3⟩
  show wpAny _ X.A ((compTurn (.ListComp elt [⟨.Name x px,iter,ifs,0⟩] scope pos) 0 (.ref it) (.ref s2.heap.objs.size) (compEnvC scope cl P2.objs.size X.env)).onRaise (fun x=>do noteFrame x (compEnvC scope cl P2.objs.size X.env);theTreesLotGoes x)) _ _ s3
  refine wpAny_noted ?_
  rw[compTurn_list]
  refine wpAny_bind (wpAny_standAt (wpAny_bind ?_))
  rcases turn i n H3 w3 with⟨stop,qn⟩|⟨go,step⟩
  · refine wpAny_mono (T.done (bJ X scope (x::cn) cl P2.objs.size s2 H2 fp) rfl rfl rfl hc i [] s3 _ H3 (fun _ _=>False) I3 (stat fr3) st3 stop) (fun r s4 ⟨hr,I5⟩=> ?_) fun _ _ z=>z.elim
    subst hr
    refine wpAny_pure ?_
    obtain⟨m,hn,_⟩:=id I5.loc
    have J:Inv X pins σ H3 s4:=by
     have kp:∀b o,b≠P2.objs.size→s4.heap.get? b=some o→s4.heap.get? b=some o:=fun b o hb e=>e
     have b0:=I5.base
     have sm:∀b o,s2.heap.get? b=some o→b≠P2.objs.size:=fun b o e=>neC b (Heap.lt_size e)
     refine I2.call' (s':=s4) (ch:=fp) I5.os ⟨fun b o e n hb hx=>kp _ _ (sm b o e) (b0.keep b o e n hb hx),fun b o e n hb hx=> ?_,b0.free,fun b o e hx=> ?_,b0.tups,b0.frzs,b0.tbls⟩ (fun b u e=> ?_) I5.bare
      fun b hb=>⟨(f2 b hb).2.2.2.1,(f2 b hb).2.1,(f2 b hb).2.2.2.2.1,(f2 b hb).2.2.2.2.2⟩
     · obtain⟨sl,q⟩:=b0.slot b o e n hb hx
       exact⟨sl,kp _ _ (sm b o e) q⟩
     · obtain⟨o',q⟩:=b0.there b o e hx
       exact⟨o',kp _ _ (sm b o e) q⟩
     · have hfree:H3 P2.objs.size=none:=I5.free
       refine(I5.hok b u e).stay (fun c v hc' q=>kp c v ?_ q) (fun _ q=>q) fun _ _ q=>q
       rcases hc' with z|z
       · rw[z];exact aG e hfree
       · exact aG z hfree
    have fC:j5 X pins H3 P2.objs.size:=by
     have q:=I2.fpOk hCle (I2.hok.fresh hCle)
     exact⟨I5.free,q.2⟩
    exact fin _ _ _ _ m J fC hn qn _
  · refine wpAny_mono (T.item (bJ X scope (x::cn) cl P2.objs.size s2 H2 fp) rfl rfl rfl hc i [] s3 _ H3 (fun _ _=>False) I3 (stat fr3) st3 go) (fun r s4 ⟨u,hr,h4⟩=> ?_) fun _ _ z=>z.elim
    subst hr
    refine wpAny_bind (wpAny_mono h4 (fun _ s5 ⟨xv,H5,I5,r5,y5,st5,fr5⟩=> ?_) fun _ _ z=>z.elim)
    have I5':=I5.pinned (stat fr5) (T.obj _ _ st5)
    refine wpAny_bind (wpAny_mono (pgx _ s5 _ H5 xv u (fun σ6 H6=>σ6=mU cap (some xv) σ∧H6=H5) I5' r5 ⟨rfl,rfl⟩) (fun _ s6 ⟨σ6,H6,I6,e6,e6'⟩=> ?_) fun _ _ z=>z.elim)
    subst e6 e6'
    have again:∀{s7:Shared} {H7:Hp},Inv (bJ X scope (x::cn) cl P2.objs.size s2 H2 fp) ([]++lA fp s5.heap) (mU cap (some xv) σ) H7 s7→(∃m',m'<n∧W (i+1) m' H7)→
     ∃m,m<n∧∃i H',Inv (bJ X scope (x::cn) cl P2.objs.size s2 H2 fp) [] (mU cap none σ) H' s7∧tn i s7.heap∧(∀b∈fp,H' b=none)∧W i m H':=fun {s7 H7} I7 w7=>by
     obtain⟨m',hm,w7⟩:=w7
     refine⟨m',hm,i+1,H7,I7.unpinned.weak rfl fun j v ev=> ?_,T.keep _ _ _ st5 fun b hb o e=>(I7.pin (b,o) (List.mem_append_right _ (List.mem_append_right _ (fX hb e)))).1,fun b hb=> ?_,w7⟩
     · cases j with
       |zero=>cases (show (none:Option V)=some v from Option.some.inj ev)
       |succ j=>exact ev
     · obtain⟨o,e,d⟩:=T.obj _ _ st5 b hb
       exact(I7.pin (b,o) (List.mem_append_right _ (List.mem_append_right _ (fX hb e)))).2.1
    refine wpAny_bind (wpAny_mono (hin cl P2.objs.size s2 H2 fp _ s6 _ _ _ I6 (step xv _ y5)) (fun ok s7 ⟨H7,I7,q7⟩=> ?_) fun _ _ z=>z.elim)
    cases ok with
    |false=>
     have q7':∃m',m'<n∧W (i+1) m' H7:=by simpa using q7
     exact wpAny_pure ⟨rfl,again I7 q7'⟩
    |true=>
     have q7':=(if_pos rfl).mp q7
     refine wpAny_bind (wpAny_bind (wpAny_mono (he cl P2.objs.size s2 H2 fp _ s7 _ H7 _ I7 q7') (fun yv s8 ⟨y,H8,I8,r8,ys,h8,z8,q8⟩=> ?_) fun _ _ z=>z.elim))
     refine wpAny_bind (wpAny_mono (cR (X:=bJ X scope (x::cn) cl P2.objs.size s2 H2 fp) _ s8 _ H8 (.ref s2.heap.objs.size) [y] (.ref s2.heap.objs.size) [yv] (fun _ H9=>∃m',m'<n∧W (i+1) m' H9) I8 rfl (.cons r8 .nil) ⟨_,ys,y,rfl,rfl,h8,z8,q8⟩) (fun _ s9 ⟨_,H9,I9,_,q9⟩=> ?_) fun _ _ z=>z.elim)
     exact wpAny_pure (wpAny_pure ⟨rfl,again I9 q9⟩)
 exact codeAny_compStart_list (loop _ rfl) (T.self _ 0 _ _ _ (T.keep _ _ _ st2 fun b hb o e=>old b o e) (loop _ rfl))
theorem gD{elt iter:Expr}{x:Str}{px:Pos}{ifs:List Expr}{scope:Scope}{pos:Pos}{wi:TI}{tc:TT}{te:TE}(cn:List Str)(cap:List Nat)(S:CompScope X scope x cn cap)(hc:X.calm=true)
 (hi:PI X (.Name x px) iter wi)(hin:∀cl C s₀ H₀ ex,wn (bJ X scope (x::cn) cl C s₀ H₀ ex) ifs tc)(he:∀cl C s₀ H₀ ex,PE (bJ X scope (x::cn) cl C s₀ H₀ ex) elt te)
 (hs:∀z,foldedSetIterable iter X.env z=pure z:=by intro _;rfl):PE X (.ListComp elt [⟨.Name x px,iter,ifs,0⟩] scope pos) (wp wi tc te cap):=by
 intro pins s σ H Q I h
 rw[eval_ListComp]
 refine vm cn cap S hc hi hin he hs I h fun d C H' s' m J fC hn qn r=>⟨m,hn,fun h' hsb=>⟨.ref d,H', ?_,rfl,qn⟩⟩
 refine J.turnedL (t':=s'.toks) (ch:=[C]) (fun b o hb e=>hsb.extBut b o (by simpa using hb) e) (fun b hb=> ?_)
 cases List.mem_singleton.mp hb
 exact fC
end
section
variable{X:Cx}
def Do:V→Option Int→Option Int→Hp→VK→Prop:=fun x lo hi H Q=>∃z,x= .str z∧z.length≤sizeLine∧Q (.str (Txt.slice z lo hi)) H
theorem BM:SlR X Do:=by
 intro pins s σ H x v vl vu lo hi sl Q I rx hs pl pu h
 obtain⟨z,rfl,hz,q⟩:=h
 obtain⟨t,rfl⟩:=rx
 refine⟨"str",_,F.slot_str_getitem.lookup,typeIs_str _ _ _, ?_⟩
 cases pl with
 |none=>
  cases pu with
  |none=>exact wpAny_getItem_str_slice (l:=none) (u:=none) (st:=none) hs rfl (post_val_or_str ⟨Nat.le_trans (Txt.slice_le z _ _) hz,fun t' k=>⟨.str _,H,I.tok k,⟨_,rfl⟩,q⟩⟩)
  |int j uj=>exact wpAny_getItem_str_slice (l:=none) (u:=some (j,uj)) (st:=none) hs rfl (post_val_or_str ⟨Nat.le_trans (Txt.slice_le z _ _) hz,fun t' k=>⟨.str _,H,I.tok k,⟨_,rfl⟩,q⟩⟩)
 |int i ui=>
  cases pu with
  |none=>exact wpAny_getItem_str_slice (l:=some (i,ui)) (u:=none) (st:=none) hs rfl (post_val_or_str ⟨Nat.le_trans (Txt.slice_le z _ _) hz,fun t' k=>⟨.str _,H,I.tok k,⟨_,rfl⟩,q⟩⟩)
  |int j uj=>exact wpAny_getItem_str_slice (l:=some (i,ui)) (u:=some (j,uj)) (st:=none) hs rfl (post_val_or_str ⟨Nat.le_trans (Txt.slice_le z _ _) hz,fun t' k=>⟨.str _,H,I.tok k,⟨_,rfl⟩,q⟩⟩)
def Dp(K:W.Frag):V→Option Int→Option Int→Hp→VK→Prop:=fun x lo hi H Q=>Di K x lo hi H Q∨De K x lo hi H Q∨Do x lo hi H Q
theorem slX:SlR X (Dp X.K):=y8.or (Bs.or BM)
def uc:V→List V→Hp→VK→Prop:=fun x vs H Q=>∃a b,x= .str a∧vs=[.str b]∧Q (.bl (Txt.startswith a b)) H
theorem oJ:MtR X "str.startswith" uc:=by
 intro pins s σ H x vs v us Q I rx rv h
 obtain⟨a,b,rfl,rfl,q⟩:=h
 obtain⟨t,rfl⟩:=rx
 obtain⟨u,rfl,t',rfl⟩:=rv.one
 exact SC.startswith ⟨.bl _,H,I,rfl,q⟩
theorem mV:∀{ys:List Str} {us:List Value},Vals (ys.map V.str) us→StrsAre us ys
 |[],_, .nil=> .nil
 |y::ys,_, .cons r t=>by
  obtain⟨k,rfl⟩:=r
  exact .cons y k (mV t)
def wq(K:W.Frag):V→List V→Hp→VK→Prop:=fun x vs H Q=>∃(a:Str) (l:Addr) (ys:List Str),x= .str a∧vs=[.ref l]∧SqL K H l (ys.map V.str)∧(ys.map (·.length)).sum+ys.length*a.length≤16777216∧Q (.str (Txt.join a ys)) H
theorem je:MtR X "str.join" (wq X.K):=by
 intro pins s σ H x vs v us Q I rx rv h
 obtain⟨a,l,ys,rfl,rfl,hS,hz,q⟩:=h
 obtain⟨t,rfl⟩:=rx
 obtain⟨u,rfl,ru⟩:=rv.one
 cases ru
 obtain⟨its,r,pl,_⟩:=I.list hS
 exact join_list pl.isList (by simpa using mV r) hz fun t' k=>⟨.str _,H,I.tok _,⟨_,rfl⟩,q⟩
def AH:R2:=fun x y H Q=>∃a n,x= .str a∧y= .int n∧a.length≤16∧0≤n∧n≤1000000∧Q (.str (Txt.mul a n)) H
theorem zf:OpR X (binaryOp .Mult) AH:=by
 intro pins s σ H x y v u Q I rx ry h
 obtain⟨a,n,rfl,rfl,h1,h2,h3,q⟩:=h
 obtain⟨t,rfl⟩:=rx
 obtain⟨t',rfl⟩:=ry
 exact SB.mul (mulOk_of 16 1048576 h1 (by omega) (by omega) (by decide) (by decide)) fun t' k=>⟨.str _,H,I.tok _,⟨_,rfl⟩,q⟩
def AI:R2:=fun x y H Q=>rI IntMulOk (fun i j=> .int (i*j)) x y H Q∨Dk x y H Q∨AH x y H Q
theorem gv:OpR X (binaryOp .Mult) AI:=zb.or (Bx.or zf)
theorem pX:CallR X (.type "int") (fun xs H Q=>∃x n,xs=[.str x]∧PySem.intText? x=some n∧x.length≤640∧Q (.int n) H):=by
 intro pins s σ H xs us Q I r h
 obtain⟨x,n,rfl,hn,hl,q⟩:=h
 obtain⟨u,rfl,t,rfl⟩:=r.one
 exact W.KIN.call_text hn hl ⟨.int n,H,I.tok _,⟨_,rfl⟩,q⟩
theorem lG:CallR X (.type "int") (fun xs H Q=>((∃i,xs=[.int i]∧Q (.int i) H)∨∃k,xs=[.bl k]∧Q (.int (if k then 1 else 0)) H)∨∃x n,xs=[.str x]∧PySem.intText? x=some n∧x.length≤640∧Q (.int n) H):=vd.or pX
theorem mW:OpR X (compareOp .In) (fun x y H Q=>(∃i j,x= .str i∧y= .str j∧Q (.bl (!(Builtin.Str.occurrences j i 0 j.length 1).isEmpty)) H)∨rIn X.K false x y H Q):=vc.or vh
theorem mX:∀bs:List Bool,(List.range bs.length).all (fun i=>(bs[i]?).getD true)=bs.all id
 |[]=>rfl
 |b::bs=>by
  rw[List.length_cons,List.range_succ_eq_map,List.all_cons,List.all_map,List.all_cons]
  have:=mX bs
  simp only[Function.comp_def,List.getElem?_cons_succ] at*
  rw[this]
  rfl
theorem oK(hc:X.calm=true):CallR X (.builtin "all") (fun xs H Q=>∃(l:Addr) (bs:List Bool),xs=[.ref l]∧SqL X.K H l (bs.map V.bl)∧Q (.bl (bs.all id)) H):=by
 intro pins s σ H xs us Q I r h
 obtain⟨l,bs,rfl,hS,q⟩:=h
 obtain⟨u,rfl,ru⟩:=r.one
 cases ru
 obtain⟨its,rv,pl,hz⟩:=I.list hS
 have hl:=rv.length
 rw[List.length_map] at hl
 have hlt:l<s.heap.objs.size:=by obtain⟨o,n,e,_⟩:=pl;exact Heap.lt_size e
 refine call_all_walk (wpAny_pyIter_list pl.isList ?_)
 refine⟨s.heap.objs.size,[s.heap.objs.size,l],[s.heap.objs.size],its.toArray.size,_,_,fun i=>(bs[i]?).getD true,rfl,Walks.list (A:=X.A.in1) (I.ok.hd hc) _ l (Nat.ne_of_lt hlt) its.toArray,
  ⟨⟨_,Heap.get?_push_size _ rfl,rfl,rfl⟩,pl.isList.push _⟩,fun i v s' Q' E' hP hQ=> ?_,fun h' tk hk=> ?_⟩
 · have hP':its[i]? =some v:=by simpa using hP
   have hi:i<its.length:=(List.getElem?_eq_some_iff.mp hP').1
   obtain⟨u,e1,e2⟩:=rv.get (i:=i) (x:= .bl bs[i]) (by rw[List.getElem?_map,List.getElem?_eq_getElem (by omega)];rfl)
   rw[hP'] at e1
   cases e1
   cases e2
   have e3:bs[i]? =some bs[i]:=List.getElem?_eq_getElem (by omega)
   simp only[e3,Option.getD_some] at hQ
   exact wpAny_truthy_bool hQ
 · have e:((List.range its.toArray.size).all fun i=>(bs[i]?).getD true)=bs.all id:=by
    rw[List.size_toArray,←hl];exact mX bs
   rw[e]
   have kp:∀b x,s.heap.get? b=some x→h'.get? b=some x:=fun b x e=>hk b x (fun hm=>by rw[List.mem_singleton.mp hm] at e;exact Nat.lt_irrefl _ (Heap.lt_size e)) (Heap.get?_push_of_some _ e)
   exact⟨.bl _,H,I.kept kp,rfl,q⟩
def Its(z:Str):It:=⟨fun i _=>i<z.cps.size,fun i H x H'=>H'=H∧∃c,z.cps.toList[i]? =some c∧x= .str ⟨#[c]⟩,fun i _=>i=z.cps.size⟩
theorem wt{P:Program}{w:World}{K:PySem.W.Frag}{tg:Expr}{T:String}{z:Str}{t:Tok}(it:Addr)(hT:["enumerate","zip","dict_itemiterator","dict_reverseitemiterator","odict_iterator","itertools.zip_longest","itertools.pairwise"].contains T=false)
 (W:∀A:Around,A.handled=none→Walks P w A it [it] [it] z.cps.size (SignAt z) (fun i h=>h.IsStrIter it T z t i))(W0:∀(A:Around) (i:Nat) (s:Shared) (Q:Value→Shared→Prop) (E:Value→Shared→Prop),s.heap.IsStrIter it T z t i→Q (.ref it) s→wpAny (model P w) A (pyIter (.ref it)) Q E s):
 Turn P w K tg (Its z) [it] it (fun i h=>h.IsStrIter it T z t i) where
 mem:=by simp
 obj:=fun i h st b hb=>by
  have e:b=it:=by simpa using hb
  subst e
  obtain⟨o,e,c,d⟩:=st
  exact⟨o,e,fun v q=>by rw[d] at q;cases q⟩
 keep:=fun i h h' st k=>by
  obtain⟨o,e,c,d⟩:=st
  exact⟨o,k it (by simp) o e,c,d⟩
 item:=by
  intro X hP hw hK hc i pins s σ H E I hf st hg
  subst hP hw hK
  obtain⟨f0,f1,f2,f3,f4,f5⟩:=hf it (by simp)
  refine(W X.A (I.ok.hd hc)).item i s _ _ hg st fun v h' tk hv st' kk=> ?_
  obtain⟨c,u,hc',rfl⟩:=hv
  have I1:Inv X pins σ H {s with heap:=h',toks:=tk}:=I.turned (fun b o hb e=>kk b o (by simpa using hb) e) f0 f1 f3 f4 f5
  obtain⟨o,e,hcl,hd⟩:=id st'
  refine⟨_,rfl,tU (s:={s with heap:=h',toks:=tk}) e hcl hd hT ⟨.str ⟨#[c]⟩,H,I1,⟨u,rfl⟩,⟨rfl,c, ?_,rfl⟩,st',fun b hb=>(hf b hb).1⟩⟩
  rw[←hc'];simp
 done:=by
  intro X hP hw hK hc i pins s σ H E I hf st hg
  subst hP hw hK
  obtain⟨f0,f1,f2,f3,f4,f5⟩:=hf it (by simp)
  have hg':i=z.cps.size:=hg
  subst hg'
  exact(W X.A (I.ok.hd hc)).done s _ _ st fun h' tk hk=>⟨rfl,I.turned (fun b o hb e=>hk b o (by simpa using hb) e) f0 f1 f3 f4 f5⟩
 self:=fun A i s Q E st h=>W0 A i s Q E st h
def Dq(te:TE):TI:=fun σ H R=>te σ H fun x H1=>∃z,x= .str z∧R (Its z) H1
theorem iM{tg e:Expr}{te:TE}(he:PE X e te):PI X tg e (Dq te):=by
 intro pins s σ H R I h
 refine thn (he pins s σ H _ I h) fun v s1 ⟨x,H1,I1,r1,z,ez,q⟩=> ?_
 subst ez
 obtain⟨t,rfl⟩:=r1
 have fin:∀(T:String),(["enumerate","zip","dict_itemiterator","dict_reverseitemiterator","odict_iterator","itertools.zip_longest","itertools.pairwise"].contains T=false)→
  (∀A:Around,A.handled=none→Walks X.prog X.w A s1.heap.objs.size [s1.heap.objs.size] [s1.heap.objs.size] z.cps.size (SignAt z) (fun i h=>h.IsStrIter s1.heap.objs.size T z t i))→
  (∀(A:Around) (i:Nat) (s:Shared) (Q:Value→Shared→Prop) (E:Value→Shared→Prop),s.heap.IsStrIter s1.heap.objs.size T z t i→Q (.ref s1.heap.objs.size) s→wpAny (model X.prog X.w) A (pyIter (.ref s1.heap.objs.size)) Q E s)→
  PIE X pins σ tg R (.ref s1.heap.objs.size) {s1 with heap:=s1.heap.push {cls:= .type T,data:= .fields #[.str z t, .int 0 0]}}:=fun T hT W W0=>by
  refine⟨s1.heap.objs.size,[s1.heap.objs.size],_,Its z,H1,rfl,I1.kept (t':=s1.toks) fun b o e=>Heap.get?_push_of_some _ e,wt s1.heap.objs.size hT W W0,⟨_,Heap.get?_push_size _ rfl,rfl,rfl⟩,fun b hb=> ?_,q⟩
  have e:b=s1.heap.objs.size:=by simpa using hb
  subst e
  exact I1.fpOk (Nat.le_refl _) (I1.hok.fresh (Nat.le_refl _))
 cases ha:z.cps.all (· <128)
 · exact wpAny_pyIter_wide ha (fin "str_iterator" (by decide) (fun A hA=>Walks.strWide hA _ z t) fun A i s Q E st h=>wpAny_pyIter_striter_wide st h)
 · exact wpAny_pyIter_ascii ha (fin "str_ascii_iterator" (by decide) (fun A hA=>Walks.strAscii hA _ z t) fun A i s Q E st h=>wpAny_pyIter_striter_ascii st h)
theorem eS{tg e:Expr}{wi wi':TI}(h:PI X tg e wi)(h':PI X tg e wi'):PI X tg e (fun σ H R=>wi σ H R∨wi' σ H R):=by
 intro pins s σ H R I q
 rcases q with q|q
 · exact h pins s σ H R I q
 · exact h' pins s σ H R I q
end
structure FunX(K:W.Frag)(x qual:Str)(st:Stmt)(f:Addr)(fd:FuncData)(dV:Value):Prop where
 ex:∃(oc:Value) (od:Option Addr) (kV doc pm:Value) (an:Option Addr) (cdv ct:Value) (osl:Array (Option Value)),
  fd=W.fnOf x qual (aT st) (aR st) (au st) dV kV doc pm an cdv ct∧K.lookup f=some ⟨oc,od, .func fd,osl⟩∧W.codeIn K cdv qual=true
 kp:W.keepIn K (.ref f)=true
section
variable{P:Program}{w:World}{K:W.Frag}{mg:Str→Option Value}{base:Heap}
theorem FunX.ok{x qual:Str}{st:Stmt}{f:Addr}{fd:FuncData}{dV:Value}{N ps:List Str}{k:Nat}{sp:Sp}(F:FunX K x qual st f fd dV)(S:FnScope N ps (au st))(len:∀vs H Q E,sp vs H Q E→vs.length=ps.length)
 (hbody:∀(cdv:Value) (A:Around) (outer:List Env) (s:Shared) (H:Hp) (vs:List V) (Q:VK) (E:XK),Room k (A.deeper (envOfC qual (au st) s.heap.objs.size f cdv))→sp vs H Q E→
  ∃t,PSs (oH CX0 P w K mg base N qual (au st) f cdv A outer s H E).nox (aR st) t∧t {nx:=fun _ H'=>Q .non H',rt:=Q} (start N vs) H):FnOk P w K mg base CX0 (k+1) f fd ps sp:=by
 obtain⟨oc,od,kV,doc,pm,an,cdv,ct,osl,rfl,lk,hcd⟩:=F.ex
 refine v6 lk hcd S len fun A outer s H vs Q E hr hsp=> ?_
 obtain⟨t,h,q⟩:=hbody cdv A outer s H vs Q E hr hsp
 exact⟨t,h.nox,q⟩
theorem zg{x qual:Str}{st:Stmt}{f:Addr}{oc dV:Value}{od an:Option Addr}{osl:Array (Option Value)}{kV doc pm cdv ct:Value}(l:K.lookup f=some ⟨oc,od, .func (W.fnOf x qual (aT st) (aR st) (au st) dV kV doc pm an cdv ct),osl⟩)
 (c:W.codeIn K cdv qual=true)(k:W.keepIn K (.ref f)=true):FunX K x qual st f (W.fnOf x qual (aT st) (aR st) (au st) dV kV doc pm an cdv ct) dV:=⟨⟨oc,od,kV,doc,pm,an,cdv,ct,osl,rfl,l,c⟩,k⟩
end
structure GotD(P:Program)(w:World)(K:W.Frag)(mg:Str→Option Value)(base:Heap)(k:Nat)(x:Str)(ps:List Str)(dvs:List V)(sp:Sp):Prop where
 ex:∃f fd ds,FnOk P w K mg base CX0 k f fd ps sp∧Binds K fd ps ds∧Vals dvs ds∧W.keepIn K (.ref f)=true∧mg x=some (.ref f)
section
variable{X:Cx}{k n:Nat}{x:Str}{ps:List Str}{sp:Sp}{p pos:Pos}{e:Expr}{es:List Expr}{t:TA}{dvs:List V}
theorem kc{v:V}(hg:Gl X x)(h:∃u,X.mg x=some u∧RelV v u)(hd:(x==("__debug__":Str))=false:=by decide):PE X (.Name x pos) (tC v):=by
 obtain⟨u,hm,r⟩:=h
 exact tS hg hm r hd
structure CompC(fsc:Scope)(N:List Str)(scope:Scope)(x:Str)(cn:List Str)(cap:List Nat):Prop where
 kind:scope.kind= .function
 names:∀y∈scope.names,y.2= .local→scope.names.lookup y.1=some .local
 cell:∀y∈scope.names,y.2≠ .cell
 own:scope.names.lookup x=some .local
 free:∀y∈scope.names,y.2= .free→fsc.names.lookup y.1=some .cell∨fsc.names.lookup y.1=some .free
 cap:cap.map (fun i=>N[i]?)=cn.map some
 capf:∀y∈cn,scope.names.lookup y=some .free
 capo:∀y∈cn,fsc.names.lookup y=some .cell∨fsc.names.lookup y=some .free
 nd:(x::cn).Nodup
theorem CompC.to{fsc:Scope}{N:List Str}{scope:Scope}{cn:List Str}{cap:List Nat}(c:CompC fsc N scope x cn cap)(e1:X.env.scope=fsc)(e2:X.N=N):CompScope X scope x cn cap:=by
 subst e1 e2
 exact⟨c.kind,c.names,c.cell,c.own,c.free,c.cap,c.capf,c.capo,c.nd⟩
end
section
variable{X:Cx}{K:W.Frag}
theorem BN(h:X.K=K):OpR X (compareOp .In) (fun x y H Q=>(∃i j,x= .str i∧y= .str j∧Q (.bl (!(Builtin.Str.occurrences j i 0 j.length 1).isEmpty)) H)∨rIn K false x y H Q):=by
 subst h;exact mW
theorem pY(h:X.K=K):IxR X (rIx K):=by
 subst h;exact aD
theorem Dr(h:X.K=K):CallR X (.builtin "len") (fun xs H Q=>(∃p ys,xs=[.ref p]∧(SqL K H p ys∨SqT K H p ys)∧Q (.int ys.length) H)∨∃z,xs=[.str z]∧z.length≤sizeLine∧Q (.int z.length) H):=by
 subst h;exact d4
theorem zh(h:X.K=K)(hu:X.A.units+64<cLine):OpR X (compareOp .Eq) (BK K):=by
 subst h;exact cK hu
theorem ww(h:X.K=K):MtR X "str.join" (wq K):=by
 subst h;exact je
theorem BO{o e:Expr}{es:List Expr}{to:TE}{t:TA}{name:Str}{apos cpos:Pos}{T id:String}{r:V→List V→Hp→VK→Prop}(h:X.K=K)(pa:PlainAttrs T)(slot:Slot T name id)(hty:typeOf (.builtin id)=pure (.type "method_descriptor"))(hm:MtR X id r)(ho:PE X o to)(ha:PA X (e::es) t)
 (hbase:attributeBase o name X.env (eval o X.env)=eval o X.env:=by rfl)
 (hfew:((backTo cpos (starEach (e::es) X.env)).all (fun x=> !x.1)&&(backToKw cpos (keywordEach [] X.env)).all (fun x=>x.1.isSome)
  &&decide ((e::es).length+([]:List Keyword).length+(if([]:List Keyword).isEmpty then 0 else 1)<30))=true:=by rfl)
 (hline:(apos.endLine==cpos.line)=true:=by rfl)(hs:starEach (e::es) X.env=(false,eval e X.env)::starEach es X.env:=by rfl)(hplain:(backTo cpos (starEach es X.env)).any (·.1)=false:=by rfl):
 PE X (.Call (.Attribute o name apos) (e::es) [] cpos) (tBM K T r to t):=by
 subst h;exact d3 pa slot hty hm ho ha hbase hfew hline hs hplain
end
theorem Ds:bootBuiltins "all"=some (.builtin "all"):=by decide+kernel
end L2
namespace Tx
open PySem
abbrev cs(x:Str):List Nat:=x.cps.toList
theorem cs_len(x:Str):(cs x).length=x.length:=Array.length_toList
theorem ext{x y:Str}(h:cs x=cs y):x=y:=PyProof.Rows.ext_toList h
def dig(c:Nat):Bool:=decide (48≤c)&&decide (c≤57)
def low(c:Nat):Bool:=decide (97≤c)&&decide (c≤122)
def val(l:List Nat):Int:=l.foldl (fun(v:Int) (c:Nat)=>v*10+((c:Int)-48)) 0
def zi:List Nat→Option Int
 |[]=>none
 |c::r=>if(c::r).length≤60∧(c::r).all dig=true∧(r=[]∨c≠48) then some (val (c::r)) else none
def num(x:Str):Option Int:=zi (cs x)
theorem Ed:cs (Str.ofString "0123456789")=[48,49,50,51,52,53,54,55,56,57]:=by decide+kernel
theorem Ee:cs (Str.ofString "abcdefghijklmnopqrstuvwxyz")=[97,98,99,100,101,102,103,104,105,106,107,108,109,110,111,112,113,114,115,116,117,118,119,120,121,122]:=by decide+kernel
theorem in_figs(c:Nat):decide (c∈cs (Str.ofString "0123456789"))=dig c:=by
 rw[Ed]
 unfold dig
 rw[Bool.eq_iff_iff,Bool.and_eq_true,decide_eq_true_iff,decide_eq_true_iff,decide_eq_true_iff]
 simp only[List.mem_cons,List.not_mem_nil,or_false]
 omega
theorem in_lets(c:Nat):decide (c∈cs (Str.ofString "abcdefghijklmnopqrstuvwxyz"))=low c:=by
 rw[Ee]
 unfold low
 rw[Bool.eq_iff_iff,Bool.and_eq_true,decide_eq_true_iff,decide_eq_true_iff,decide_eq_true_iff]
 simp only[List.mem_cons,List.not_mem_nil,or_false]
 omega
theorem starts0(x:Str):Txt.startswith x (Str.ofString "0")=decide ((cs x)[0]? =some 48):=by
 have e0:(Str.ofString "0").cps= #[48]:=by decide+kernel
 have l0:(Str.ofString "0").length=1:=by decide+kernel
 unfold Txt.startswith Builtin.Str.subAt
 rw[e0,l0]
 obtain⟨⟨l⟩⟩:=x
 cases l with
 |nil=>rfl
 |cons c r=>
  show (decide (0+1≤(c::r).length)&&((Array.mk (c::r)).extract 0 (0+1)== #[48]))=decide (some c=some 48)
  rw[decide_eq_true (by simp)]
  have:(Array.mk (c::r)).extract 0 (0+1)= #[c]:=by simp
  rw[this,Bool.true_and]
  by_cases h:c=48
  · subst h;rfl
  · rw[decide_eq_false (by intro q;exact h (Option.some.inj q))]
    simp[h]
theorem zero_iff(x:Str):x=Str.ofString "0"↔cs x=[48]:=by
 have e0:cs (Str.ofString "0")=[48]:=by decide+kernel
 constructor
 · rintro rfl;exact e0
 · intro h;exact ext (h.trans e0.symm)
theorem empty_iff(x:Str):x=Str.ofString ""↔cs x=[]:=by
 have e0:cs (Str.ofString "")=[]:=by decide+kernel
 constructor
 · rintro rfl;exact e0
 · intro h;exact ext (h.trans e0.symm)
theorem kr:∀(l:List Nat) (a:Nat),l.all dig=true→l.foldl (fun(v:Int) (c:Nat)=>v*10+((c:Int)-48)) (a:Int)=((l.foldl (fun acc c=>acc*10+(c-48)) a:Nat):Int)
 |[],_,_=>rfl
 |c::r,a,h=>by
  rw[List.all_cons,Bool.and_eq_true] at h
  have hd:48≤c∧c≤57:=by
   have:=h.1
   unfold dig at this
   rw[Bool.and_eq_true,decide_eq_true_iff,decide_eq_true_iff] at this
   exact this
  rw[List.foldl_cons,List.foldl_cons,←kr r (a*10+(c-48)) h.2]
  congr 1
  omega
theorem int_of{x:Str}(h:(cs x).all dig=true)(hne:cs x≠[])(hl:x.length≤640):intText? x=some (val (cs x)):=by
 have hd:NumText.AllDigits (cs x):=fun c hc=>by
  have:=List.all_eq_true.mp h c hc
  unfold dig at this
  rw[Bool.and_eq_true,decide_eq_true_iff,decide_eq_true_iff] at this
  exact this
 rw[PySem.intText_digits hd hne (by omega)]
 have:=kr (cs x) 0 h
 unfold val NumText.digitsVal
 exact congrArg some this.symm
def row(p:Nat→Bool)(m:Int)(x:Str):Bool:=decide (1≤x.length)&&decide ((x.length:Int)≤m)&&(cs x).all p
theorem num_none{x:Str}(h:row dig 60 x=false):num x=none:=by
 unfold num row at*
 have l:=cs_len x
 cases e:cs x with
 |nil=>rfl
 |cons c r=>
  rw[e] at h l
  show (if(c::r).length≤60∧(c::r).all dig=true∧(r=[]∨c≠48) then some (val (c::r)) else none)=none
  rw[if_neg]
  rintro⟨h1,h2,_⟩
  have a1:decide (1≤x.length)=true:=decide_eq_true (by rw[←l];simp)
  have a2:decide ((x.length:Int)≤60)=true:=decide_eq_true (by omega)
  rw[a1,a2,h2] at h
  cases h
theorem num_row{x:Str}(h:row dig 60 x=true):(cs x).all dig=true∧cs x≠[]∧x.length≤60∧((∃r,cs x=48::r∧r≠[])→num x=none)∧((¬∃r,cs x=48::r∧r≠[])→num x=some (val (cs x))):=by
 unfold num row at*
 rw[Bool.and_eq_true,Bool.and_eq_true,decide_eq_true_iff,decide_eq_true_iff] at h
 obtain⟨⟨h1,h2⟩,h3⟩:=h
 have l:=cs_len x
 refine⟨h3, ?_,by omega,fun q=> ?_,fun q=> ?_⟩
 · intro e;rw[e] at l;simp at l;omega
 · obtain⟨r,e,hr⟩:=q
   rw[e]
   show (if(48::r).length≤60∧(48::r).all dig=true∧(r=[]∨48≠48) then some (val (48::r)) else none)=none
   rw[if_neg]
   rintro⟨_,_,z|z⟩
   · exact hr z
   · exact z rfl
 · cases e:cs x with
   |nil=>rw[e] at l;simp at l;omega
   |cons c r=>
    rw[e] at l h3
    show (if(c::r).length≤60∧(c::r).all dig=true∧(r=[]∨c≠48) then some (val (c::r)) else none)=some (val (c::r))
    rw[if_pos]
    refine⟨by omega,h3, ?_⟩
    by_cases z:r=[]
    · exact .inl z
    · exact .inr fun c48=>q ⟨r,by rw[e,c48],z⟩
end Tx
namespace Tx
open PySem
def digs(n:Nat):List Nat:=(Nat.toDigits 10 n).map Char.toNat
theorem wA(m:Nat):cs (Str.ofString (toString ((m:Nat):Int)))=digs m:=W.KIN.signs_num m
theorem cs_nn{n:Int}(h:0≤n):cs (Str.ofString (toString n))=digs n.natAbs:=by
 obtain⟨m,rfl⟩:=Int.eq_ofNat_of_zero_le h
 exact wA m
theorem cz(x y:Str):cs (x++y)=cs x++cs y:=W.KT.app_list x y
theorem digs_in{m c:Nat}(h:c∈digs m):48≤c∧c≤57:=by
 obtain⟨ch,hch,rfl⟩:=List.mem_map.mp h
 exact PyProof.Rows.digit_range (Nat.isDigit_of_mem_toDigits (by decide) (by decide) hch)
theorem digs_all(m:Nat):(digs m).all dig=true:=by
 rw[List.all_eq_true]
 intro c hc
 have:=digs_in hc
 unfold dig
 rw[Bool.and_eq_true,decide_eq_true_iff,decide_eq_true_iff]
 exact this
theorem digs_ne(m:Nat):digs m≠[]:=by
 intro e
 have h:=PySem.toDigits_len_ge 10 m
 unfold digs at e
 rw[List.map_eq_nil_iff.mp e] at h
 exact absurd h (by decide)
theorem digs_val(m:Nat):val (digs m)=(m:Int):=by
 have h:=kr (digs m) 0 (digs_all m)
 have e:=W.KIN.val_back m
 unfold NumText.digitsVal at e
 unfold val
 rw[show ((0:Int))=(((0:Nat)):Int) from rfl,h]
 exact congrArg (fun n:Nat=>(n:Int)) e
theorem digs_head{m:Nat}{r:List Nat}(h:digs m=48::r):r=[]:=by
 have ha:NumText.AllDigits (digs m):=fun c hc=>digs_in hc
 have e:=NumText.toDigits_all (digs m) ha
 have ev:NumText.digitsVal (digs m)=m:=W.KIN.val_back m
 rw[ev,h] at e
 have hl:(Nat.toDigits 10 m).length=r.length+1:=by
  have:=congrArg List.length h
  unfold digs at this
  rw[List.length_map] at this
  exact this
 have dw:(48::r).dropWhile (· ==48)=r.dropWhile (· ==48):=by
  rw[List.dropWhile_cons];rfl
 rw[dw] at e
 cases q:r.dropWhile (· ==48) with
 |nil=>
  rw[q] at e
  have e':(Nat.toDigits 10 m).length=1:=by rw[e];rfl
  exact List.length_eq_zero_iff.mp (by omega)
 |cons c t=>
  rw[q] at e
  rw[e,List.length_map] at hl
  have:=(List.dropWhile_sublist (l:=r) (p:=(· ==48))).length_le
  rw[q] at this
  omega
theorem digs_len{m k:Nat}(hk:0<k)(h:m<10^k):(digs m).length≤k:=by
 have e:=PyProof.Rows.toString_length_le (v:=(m:Int)) (by omega) hk (by exact_mod_cast h)
 rw[←wA m,cs_len]
 exact e
def rd(neg:Bool)(b:List Nat)(o:Option (List Nat×List Nat)):Option (Int×Int):=match o with
 |none=>match zi b with
  |none=>none
  |some a=>if neg=true∧a=0 then none else some ((if neg then-a else a),1)
 |some (A,B)=>match zi A,zi B with
  |some a,some d=>if d<2∨(neg=true∧a=0)∨Fr.G a d≠1 then none else some ((if neg then-a else a),d)
  |_,_=>none
end Tx
namespace L2
open PySem PySem.Spec PyProof.Rows
section
variable{X:Cx}
end
section
variable{prog:Program}{w:World}{A:Around}{E:Value→Shared→Prop}{s:Shared}{it l:Addr}{its:Array Value}
end
section
variable{X:Cx}
abbrev Dt:R2:=rI0 fun i j=> .int (i-j)
abbrev Du:R2:=rI CZ fun i j=> .int (i/j)
abbrev Ef:R2:=rI (fun _ j=>0<j) fun i j=> .int (i%j)
abbrev rLt:R2:=rI0 fun i j=> .bl (decide (i<j))
abbrev rGt:R2:=rI0 fun i j=> .bl (decide (j<i))
abbrev rGe:R2:=rI0 fun i j=> .bl (decide (j≤i))
abbrev Dv:R2:=fun x y H Q=>y= .non∧Q (.bl (!decide (x= .non))) H
abbrev Dw(K:W.Frag):R2:=fun x y H Q=>(∃i j,x= .str i∧y= .str j∧Q (.bl (!(Builtin.Str.occurrences j i 0 j.length 1).isEmpty)) H)∨rIn K false x y H Q
abbrev Eg(K:W.Frag):List V→Hp→VK→Prop:=fun xs H Q=>(∃p ys,xs=[.ref p]∧(SqL K H p ys∨SqT K H p ys)∧Q (.int ys.length) H)∨∃z,xs=[.str z]∧z.length≤sizeLine∧Q (.int z.length) H
abbrev Eh(K:W.Frag):List V→Hp→VK→Prop:=fun xs H Q=>∃x T t k,xs=[x, .ty T]∧TyOf K H x t∧W.kitOne K t (.type T)=some k∧Q (.bl k) H
abbrev Dx:List V→Hp→VK→Prop:=fun xs H Q=>∃i j,xs=[.int i, .int j]∧Q (.int (if j<i then j else i)) H
abbrev Ei(K:W.Frag):List V→Hp→VK→Prop:=fun xs H Q=>∃(l:Addr) (bs:List Bool),xs=[.ref l]∧SqL K H l (bs.map V.bl)∧Q (.bl (bs.all id)) H
abbrev Dy:List V→Hp→VK→Prop:=fun xs H Q=>((∃i,xs=[.int i]∧Q (.int i) H)∨∃k,xs=[.bl k]∧Q (.int (if k then 1 else 0)) H)∨∃x n,xs=[.str x]∧PySem.intText? x=some n∧x.length≤640∧Q (.int n) H
abbrev zm(K:W.Frag):List V→Hp→VK→Prop:=fun xs H Q=>∃p ys,xs=[.ref p]∧(SqL K H p ys∨SqT K H p ys)∧∀l,H l=none→Q (.ref l) (upd H l (.lst ys))
abbrev wC(K:W.Frag):List V→Hp→VK→Prop:=fun xs H Q=>∃p ys,xs=[.ref p]∧((SqL K H p ys∧∀l,H l=none→Q (.ref l) (upd H l (.tup ys)))∨(SqT K H p ys∧Q (.ref p) H))
end
def dZ:List Value→Bool
 | .ref _::r=>dZ r
 |l=>l==[.type "ValueError", .type "Exception", .type "BaseException", .type "object"]
theorem gE{P:List Value→Prop}(h0:P [.type "ValueError", .type "Exception", .type "BaseException", .type "object"])(h1:∀c r,P r→P (.ref c::r)):∀l,dZ l=true→P l
 |[],e=>by cases e
 |v::r,e=>by
  cases v with
  |ref c=>exact h1 c r (gE h0 h1 r e)
  |_=>exact(beq_iff_eq.mp (show _=true from e))▸h0
theorem mY(self:Value)(l:List Value)(e:dZ l=true):refuseLoop self "__setattr__" l=pure ():=
 gE (P:=fun l=>refuseLoop self "__setattr__" l=pure ()) (PySem.F.store_ValueError.passes self) (fun c r h=>by rw[refuseLoop_ref];exact h) l e
theorem d5(T:String)(hT:[Value.type "ValueError", .type "Exception", .type "BaseException", .type "object"].contains (.type T)=true)(l:List Value)(e:dZ l=true):l.contains (.type T)=true:=
 gE (P:=fun l=>l.contains (.type T)=true) hT (fun c r h=>by rw[List.contains_cons,h,Bool.or_true]) l e
theorem jf(l:List Value)(e:dZ l=true):l.isEmpty=false:=
 gE (P:=fun l=>l.isEmpty=false) rfl (fun _ _ _=>rfl) l e
structure XCls(K:W.Frag)(C:Addr):Prop where
 cd:∃cd,W.clsIn K C=some cd∧cd.hasDict=true∧dZ cd.mro=true
 ga:W.findIn K (.ref C) "__getattribute__"=some (some (.builtin "BaseException.__getattribute__"))
 gk:W.findIn K (.ref C) "__getattr__"=some none
 sa:W.findIn K (.ref C) "__setattr__"=some (some (.builtin "object.__setattr__"))
section
variable{prog:Program}{w:World}{A:Around}{E:Value→Shared→Prop}{s:Shared}{K:W.Frag}{x C:Addr}{ox:Obj}{od:Option Obj}{name:Str}
theorem XCls.under(c:XCls K C)(X:K.In s.heap)(I:W.InstAt s.heap x ox C od){M:Model}(T:String)(hT:[Value.type "ValueError", .type "Exception", .type "BaseException", .type "object"].contains (.type T)=true):
 W.Looks M s.heap (isInstance (.ref x) (.type T)) true:=by
 obtain⟨cd,hc,_,ht⟩:=c.cd
 exact I.type.andThen (W.looks_mroIn X (by unfold W.mroIn;rw[hc,Option.bind_some,if_neg (by rw[jf _ ht];decide),d5 T hT _ ht]))
theorem zn{expr:Bool}{v:Value}{Q:Value→Shared→Prop}(X:K.In s.heap)(I:W.InstAt s.heap x ox C od)(c:XCls K C)(hf:W.findObj K C od name=some (.value v))(hh:W.handedIn v=true)(h:Q v {s with toks:=s.toks+1}):
 wpAny (model prog w) A (getAttr (.ref x) name expr) Q E s:=by
 have FX:=PySem.F.excAttr_ValueError
 have sub:=c.under X I (M:=model prog w) "BaseException" (by decide)
 obtain⟨hp,g,d,t,os⟩:=s
 have t0:=I.type (M:=model prog w)
 have t1:=W.looks_findIn (M:=model prog w) X c.ga
 have t2:=W.looks_hook (mc:= .ref C) (M:=model prog w) X (r:=none) (by rw[if_pos (by rfl)];exact c.gk)
 have t3:=W.looks_find (M:=model prog w) X I hf
 unfold getAttr getAttrBy
 refine wpAny_bind (wpAny_mkText (wpAny_holding (wpAny_bind (t0.at (wpAny_bind (t1.at ?_))))))
 dsimp only
 have nq:(Value.builtin "BaseException.__getattribute__"==Value.builtin "object.__getattribute__")=false:=by decide+kernel
 rw[nq,Bool.and_false,if_neg Bool.false_ne_true]
 unfold getAttrByItsOwn
 refine wpAny_bind (t2.at (wpAny_bind (wpAny_attempt (wpAny_holding ?_))))
 unfold callGetattribute
 rw[show (expr&&onTheHeap (Value.builtin "BaseException.__getattribute__"))=false from Bool.and_false expr,if_neg Bool.false_ne_true]
 unfold boundAndCalled
 rw[FX.ga.bind]
 refine wpAny_bind (wpAny_pure ?_)
 show wpAny _ _ (call (.builtin "BaseException.__getattribute__") [.ref x, .str name t]) _ _ _
 refine wpAny_call (codeAny_call_builtin FX.ga.plain PySem.F.entry_bexc_ga (@W.check_slot (model prog w) _ _ ⟨hp,g,d,t+1,os⟩ "BaseException.__getattribute__" "BaseException" "__getattribute__" (.ref x) [.str name t] [] _ (by decide+kernel) (by decide+kernel) sub (PySem.F.args_bexc_ga (.ref x) (.str name t)) ?_))
 unfold Builtin.«object.__getattribute__»
 refine wpAny_bind (wpAny_of_eq (a:=(Value.ref x,[Value.str name t])) rfl ?_)
 refine wpAny_bind (wpAny_of_eq (a:=name) rfl ?_)
 refine wpAny_bind (t0.at (wpAny_bind (t3.at ?_)))
 refine wpAny_pure ?_
 show wpAny _ _ (handedOut v) _ _ _
 rw[W.handedOut_of hh]
 exact wpAny_pure h
theorem ud{R:Result→Shared→Prop}{tk:Tok}{v:Value}(X:K.In s.heap)(I:W.InstAt s.heap x ox C od)(c:XCls K C)(n:W.findIn K (.ref C) name=some none)
 (h:wpAny (model prog w) A.in1 (Builtin.ObjectAttr.storeInOwnDict (.ref x) (.ref C) (.str name tk) name v false)
  (fun fin s'=>match fin with| .done f=>R (.ok f) s'| .again c'=>c'.quiet=true∧codeAny (model prog w) A c' R s') (fun e s'=>R (.error e) s') s):
 codeAny (model prog w) A (.call (.builtin "object.__setattr__") ⟨[.ref x, .str name tk,v],[]⟩) R s:=by
 have SF:=PySem.F.store_object
 have sub:=c.under X I (M:=model prog w) "object" (by decide)
 obtain⟨cd,hc,hd,ht⟩:=c.cd
 refine codeAny_call_builtin SF.slot.plain SF.entry (@W.check_slot (model prog w) _ _ s "object.__setattr__" "object" "__setattr__" (.ref x) [.str name tk,v] [] _ SF.kind SF.split sub (SF.args (.ref x) (.str name tk) v) ?_)
 have hm:W.Looks (model prog w) s.heap (mroOf (.ref C)) cd.mro:=(W.looks_clsIn X hc).andThen .now
 rw[W.osa_eq,refuse_eq]
 refine wpAny_bind (wpAny_bind (I.type.here (wpAny_bind (hm.here ?_))))
 rw[mY _ _ ht]
 exact wpAny_pure (wpAny_bind (I.type.here (wpAny_bind ((W.looks_findIn X n).here (wpAny_bind (wpAny_pure h))))))
theorem wD{v:Value}{vs:Array Value}{sl:Array (Option Value)}{Q:Unit→Shared→Prop}(X:K.In s.heap)(hx:s.heap.get? x=some ⟨.ref C,none, .fields vs,sl⟩)(c:XCls K C)(n:W.findIn K (.ref C) name=some none)
 (h:∀h' tk,h'.Ns1 s.heap.objs.size (fun y=>if y=name then some v else none)→h'.get? x=some ⟨.ref C,some s.heap.objs.size, .fields vs,sl⟩→(∀b o,b≠x→s.heap.get? b=some o→h'.get? b=some o)→Q () {s with heap:=h',toks:=tk}):
 wpAny (model prog w) A (setAttr (.ref x) name v) Q E s:=by
 have I:W.InstAt s.heap x ⟨.ref C,none, .fields vs,sl⟩ C none:=⟨hx,rfl,rfl,True.intro⟩
 refine W.set_plain X I c.sa (ud (s:={s with toks:=s.toks+1}) X I c n ?_)
 obtain⟨cd,hc,hd,ht⟩:=c.cd
 obtain⟨hp,g,d,t,os⟩:=s
 dsimp only at h hx I X ⊢
 have hxs:x≠hp.objs.size:=Nat.ne_of_lt (Heap.lt_size hx)
 refine wpAny_bind (wpAny_pure (wpAny_bind (wpAny_bind (wpAny_loadPart hx (wpAny_bind ((W.looks_clsIn X hc).at ?_))))))
 rw[hd]
 have hx₁:(hp.push {cls:= .type "dict",data:= .dict #[]}).get? x=some ⟨.ref C,none, .fields vs,sl⟩:=Heap.get?_push_of_some _ hx
 refine wpAny_bind (wpAny_alloc' (wpAny_bind (wpAny_update' hx₁ (wpAny_pure ?_))))
 have gd:((hp.push {cls:= .type "dict",data:= .dict #[]}).update x fun o=>{cls:=o.cls,dict:=some hp.objs.size,data:=o.data,slots:=o.slots}).get? hp.objs.size=some {cls:= .type "dict",data:= .dict #[]}:=
  (Heap.get?_update_ne _ _ _ _ hxs.symm).trans (Heap.get?_push_at rfl rfl)
 have nd:((hp.push {cls:= .type "dict",data:= .dict #[]}).update x fun o=>{cls:=o.cls,dict:=some hp.objs.size,data:=o.data,slots:=o.slots}).Ns hp.objs.size (fun _=>none):=⟨_,#[],_,gd,rfl,fun e he=>absurd he (by simp),fun _=>rfl⟩
 show wpAny _ _ (Builtin.ObjectAttr.storeInDict hp.objs.size (.str name t) name v) _ _ _
 unfold Builtin.ObjectAttr.storeInDict Builtin.ObjectAttr.newKeyGuard
 refine wpAny_bind (wpAny_pure (wpAny_bind (wpAny_nsSet1 (Heap.Ns1.of_empty nd) fun h' hn' hs=> ?_)))
 obtain⟨oD,esD,epD,hoD,hdD,hcD⟩:=hn'.count (Within.cons name v Within.nil)
 refine wpAny_bind (wpAny_lookBehind hoD (by rw[hdD];exact pastItsLine_dict (Nat.le_trans hcD (by rw[List.length_cons,List.length_nil,sizeLine_eq];omega))) (wpAny_pure ?_))
 refine h h' _ hn' ?_ fun b o hb eb=> ?_
 · exact(hs.2 x hxs).trans (Heap.get?_update_self _ hx₁ rfl)
 · exact(hs.2 b (Nat.ne_of_lt (Heap.lt_size eb))).trans ((Heap.get?_update_ne _ _ _ _ hb).trans (Heap.get?_push_of_some _ eb))
theorem wE{v:Value}{vs:Array Value}{sl:Array (Option Value)}{dx:Addr}{mA:Str→Option Value}{ns:List Str}{Q:Unit→Shared→Prop}(X:K.In s.heap)(hx:s.heap.get? x=some ⟨.ref C,some dx, .fields vs,sl⟩)(hN:s.heap.Ns1 dx mA)(hw:Within mA ns)(hz:ns.length≤1000)(c:XCls K C)
 (n:W.findIn K (.ref C) name=some none)(h:∀h' tk,h'.Ns1 dx (fun y=>if y=name then some v else mA y)→(∀b o,b≠dx→s.heap.get? b=some o→h'.get? b=some o)→Q () {s with heap:=h',toks:=tk}):
 wpAny (model prog w) A (setAttr (.ref x) name v) Q E s:=by
 obtain⟨oN,esN,epN,hoN,rN⟩:=id hN
 have I:W.InstAt s.heap x ⟨.ref C,some dx, .fields vs,sl⟩ C (some oN):=⟨hx,rfl,rfl,hoN⟩
 refine W.set_plain X I c.sa (ud (s:={s with toks:=s.toks+1}) X I c n ?_)
 obtain⟨cd,hc,hd,ht⟩:=c.cd
 obtain⟨hp,g,d,t,os⟩:=s
 dsimp only at h hx I X hN ⊢
 refine wpAny_bind (wpAny_pure (wpAny_bind (wpAny_bind (wpAny_loadPart hx (wpAny_bind ((W.looks_clsIn X hc).at ?_))))))
 rw[hd]
 refine wpAny_pure (a:=some dx) ?_
 show wpAny _ _ (Builtin.ObjectAttr.storeInDict dx (.str name t) name v) _ _ _
 unfold Builtin.ObjectAttr.storeInDict Builtin.ObjectAttr.newKeyGuard
 refine wpAny_bind (wpAny_pure (wpAny_bind (wpAny_nsSet1 hN fun h' hn' hs=> ?_)))
 obtain⟨oD,esD,epD,hoD,hdD,hcD⟩:=hn'.count (Within.cons name v hw)
 refine wpAny_bind (wpAny_lookBehind hoD (by rw[hdD];exact pastItsLine_dict (Nat.le_trans hcD (by rw[List.length_cons,sizeLine_eq];omega))) (wpAny_pure ?_))
 exact h h' _ hn' fun b o hb eb=>(hs.2 b hb).trans eb
end
def exP(e C:Addr)(d:Option Addr)(h:Heap):Prop:=∃vs sl,h.get? e=some ⟨.ref C,d, .fields vs,sl⟩∧vs.size=6∧vs[1]? =some .none
def exR(e C:Addr)(d:Option Addr)(T:Addr)(h:Heap):Prop:=∃vs sl,h.get? e=some ⟨.ref C,d, .fields vs,sl⟩∧vs.size=6∧vs[1]? =some (.ref T)
def exT(e C:Addr)(d:Option Addr)(T:Addr):HO:= .ext (exR e C d T)
def exH(e C:Addr)(d:Option Addr):HO:= .ext (exP e C d)
def exQ(dx:Addr)(fs:List (Str×V))(h:Heap):Prop:=∃mA,h.Ns1 dx mA∧(∀f,RelO (fs.lookup f) (mA f))∧PySem.Within mA (fs.map (·.1))∧fs.length≤100
def exF(dx:Addr)(fs:List (Str×V)):HO:= .ext (exQ dx fs)
theorem sI{P:Program}{w:World}{H:Hp}{h:Heap}{e C:Addr}{d:Option Addr}(p:exP e C d h):ObjOk P w H h e (exH e C d):=by
 obtain⟨vs,sl,q,z⟩:=p
 exact⟨⟨vs,sl,q,z⟩,⟨_,q⟩,fun h1 h2 ⟨vs',sl',q',z'⟩ k=>⟨vs',sl',k _ q',z'⟩⟩
theorem wF{P:Program}{w:World}{H:Hp}{h:Heap}{dx:Addr}{fs:List (Str×V)}(p:exQ dx fs h):ObjOk P w H h dx (exF dx fs):=by
 obtain⟨mA,n,r,wi,l⟩:=p
 obtain⟨o,es,ep,e,q⟩:=id n
 refine⟨⟨mA,n,r,wi,l⟩,⟨o,e⟩,fun h1 h2 ⟨mB,nB,rB,wB,lB⟩ k=>⟨mB, ?_,rB,wB,lB⟩⟩
 obtain⟨o',es',ep',e',q'⟩:=nB
 exact⟨o',es',ep',k _ e',q'⟩
theorem BP{P:Program}{w:World}{H:Hp}{h:Heap}{e C T:Addr}{d:Option Addr}(p:exR e C d T h):ObjOk P w H h e (exT e C d T):=by
 obtain⟨vs,sl,q,z⟩:=p
 exact⟨⟨vs,sl,q,z⟩,⟨_,q⟩,fun h1 h2 ⟨vs',sl',q',z'⟩ k=>⟨vs',sl',k _ q',z'⟩⟩
def ExAt(H:Hp)(e C:Addr)(d:Option Addr):Prop:=H e=some (exH e C d)∨∃T,H e=some (exT e C d T)
section
variable{X:Cx}{pins:List (Addr×Obj)}{σ:St}{H:Hp}{s:Shared}{e C dx:Addr}{d:Option Addr}{fs:List (Str×V)}{f:Str}
theorem Inv.exH(I:Inv X pins σ H s)(h:H e=some (exH e C d)):exP e C d s.heap:=(I.hok e _ h).1
theorem Inv.exF(I:Inv X pins σ H s)(h:H dx=some (exF dx fs)):exQ dx fs s.heap:=(I.hok dx _ h).1
theorem Inv.exA(I:Inv X pins σ H s)(h:ExAt H e C d):∃vs sl,s.heap.get? e=some ⟨.ref C,d, .fields vs,sl⟩∧vs.size=6:=by
 rcases h with h|⟨T,h⟩
 · obtain⟨vs,sl,e1,z,_⟩:=I.exH h
   exact⟨vs,sl,e1,z⟩
 · obtain⟨vs,sl,e1,z,_⟩:=(show exR e C d T s.heap from(I.hok e _ h).1)
   exact⟨vs,sl,e1,z⟩
theorem zo{A:Around}{E:Value→Shared→Prop}{b:Bool}{v:V}{Q:Value→Shared→Prop}(I:Inv X pins σ H s)(h1:ExAt H e C (some dx))(h2:H dx=some (L2.exF dx fs))(c:XCls X.K C)(n:NoAttr X.K C f)(l:fs.lookup f=some v)
 (h:∀u s',Inv X pins σ H s'→RelV v u→Q u s'):wpAny (model X.prog X.w) A (getAttr (.ref e) f b) Q E s:=by
 obtain⟨vs,sl,e1,_⟩:=I.exA h1
 obtain⟨mA,n1,r,_,_⟩:=I.exF h2
 obtain⟨u,hu,ru⟩:=RelO.some_of (v:=v) (o:=mA f) (by rw[←l];exact r f)
 obtain⟨od,e2,lk⟩:=oZ n1
 obtain⟨cd,hc,hd,ht⟩:=c.cd
 have J:W.InstAt s.heap e ⟨.ref C,some dx, .fields vs,sl⟩ C (some od):=⟨e1,rfl,rfl,e2⟩
 refine zn I.kIn J c ?_ (pb ru) (h u _ (I.tok _) ru)
 unfold W.findObj
 rw[hc,Option.bind_some,show W.findIn X.K (.ref C) f=some none from n,Option.bind_some]
 show ((some none:Option (Option Value)).bind _)=_
 rw[Option.bind_some]
 show ((some false:Option Bool).bind _)=_
 rw[Option.bind_some]
 show ((W.ownOf cd (some od) f).bind _)=_
 unfold W.ownOf
 rw[hd,if_pos rfl]
 dsimp only
 rw[lk,hu]
 rfl
def wG(K:W.Frag)(ta:TE)(f:Str):TE:=fun σ H Q=>ta σ H fun x H1=>∃e C dx fs v,x= .ref e∧ExAt H1 e C (some dx)∧H1 dx=some (L2.exF dx fs)∧XCls K C∧NoAttr K C f∧fs.lookup f=some v∧Q v H1
theorem ue{o:Expr}{pos:Pos}{ta:TE}(he:PE X o ta)(hb:attributeBase o f X.env (eval o X.env)=eval o X.env):PE X (.Attribute o f pos) (wG X.K ta f):=by
 intro pins s σ H Q I h
 refine tZ hb (thn (he pins s σ H _ I h) fun u s1 ⟨x,H1,I1,rx,e,C,dx,fs,v,ex,h1,h2,c,n,l,q⟩=> ?_)
 subst ex
 obtain rfl:u=Value.ref e:=rx
 exact zo I1 h1 h2 c n l fun u' s2 I2 ru=>⟨v,H1,I2,ru,q⟩
theorem Inv.exc0{h':Heap}{t':Nat}(I:Inv X pins σ H s)(h1:H e=some (L2.exH e C none))(hd:s.heap.objs.size≤dx)(k:∀b o,b≠e→s.heap.get? b=some o→h'.get? b=some o)(p:exP e C (some dx) h')(q:exQ dx fs h'):
 Inv X pins σ (upd (upd H dx (L2.exF dx fs)) e (L2.exH e C (some dx))) {s with heap:=h',toks:=t'}:=by
 have hn:H dx=none:=I.hok.fresh hd
 have ne:dx≠e:=Ne.symm (aG h1 hn)
 have at_:∀b u,H b=some u→u≠L2.exH e C none→(upd (upd H dx (L2.exF dx fs)) e (L2.exH e C (some dx))) b=some u:=fun b u eb nu=>by
  have b1:b≠e:=fun z=>by subst z;rw[h1] at eb;exact nu (Option.some.inj eb).symm
  rw[aJ b1,aJ (aG eb hn)]
  exact eb
 have no:∀b o,s.heap.get? b=some o→H b=none→b≠e∧(upd (upd H dx (L2.exF dx fs)) e (L2.exH e C (some dx))) b=none:=fun b o eb nb=>by
  have b1:b≠e:=fun z=>by subst z;rw[h1] at nb;cases nb
  have b2:b≠dx:=Nat.ne_of_lt (Nat.lt_of_lt_of_le (Heap.lt_size eb) hd)
  exact⟨b1,by rw[aJ b1,aJ b2];exact nb⟩
 refine I.un ⟨fun b o eb nb _ _=>k b o (no b o eb nb).1 eb,fun b o eb nb _ _=>⟨o.slots,k b o (no b o eb nb).1 eb⟩,fun b o eb nb _=>(no b o eb nb).2,fun b o eb _=> ?_,
  fun b xs eb=>at_ b _ eb (fun z=>by cases z),fun b o u eb=>at_ b _ eb (fun z=>by cases z),fun b ps eb=>⟨#[],by rw[at_ b _ eb (fun z=>by cases z)];simp⟩⟩ fun b u eb=> ?_
 · by_cases hb:b=e
   · subst hb
     obtain⟨vs,sl,z,_⟩:=p
     exact⟨_,z⟩
   · exact⟨o,k b o hb eb⟩
 · by_cases hb:b=e
   · subst hb
     rw[aI] at eb
     cases eb
     exact sI p
   · rw[aJ hb] at eb
     by_cases hb2:b=dx
     · subst hb2
       rw[aI] at eb
       cases eb
       exact wF q
     · rw[aJ hb2] at eb
       refine(I.hok b u eb).stay (fun c o hc eo=>k c o ?_ eo) (fun c ec=>at_ c _ ec (fun z=>by cases z)) fun c xs ec=>at_ c _ ec (fun z=>by cases z)
       rcases hc with rfl|hc
       · exact hb
       · intro z
         subst z
         rw[h1] at hc
         cases hc
def Dz(K:W.Frag)(ta tv:TE)(f:Str):TS:=fun D σ H=>tv σ H fun y H1=>ta σ H1 fun x H2=>∃e C d,x= .ref e∧H2 e=some (L2.exH e C d)∧XCls K C∧NoAttr K C f∧
 ((d=none∧∀dx,H2 dx=none→D.nx σ (upd (upd H2 dx (L2.exF dx [(f,y)])) e (L2.exH e C (some dx))))∨∃dx fs,d=some dx∧H2 dx=some (L2.exF dx fs)∧fs.length<100∧D.nx σ (upd H2 dx (L2.exF dx (iB f y fs))))
theorem rp{y:V}{u:Value}{mA:Str→Option Value}(ry:RelV y u)(r:∀g,RelO (fs.lookup g) (mA g))(g:Str):RelO ((iB f y fs).lookup g) (if g=f then some u else mA g):=by
 rw[gC]
 by_cases q:g=f
 · rw[if_pos q,if_pos q];exact ry
 · rw[if_neg q,if_neg q];exact r g
theorem zp{o value:Expr}{pos pos':Pos}{ta tv:TE}(ha:PE X o ta)(hv:PE X value tv)(hs:swapsWith value (some (.Attribute o f pos')) pos.line X.env=pure false):PS X (.Assign [.Attribute o f pos'] value pos) (Dz X.K ta tv f):=by
 intro pins s σ H D I h
 refine plainObj_wpAny_Assign_Attribute (thn (hv pins s σ H _ I h) fun u s1 ⟨y,H1,I1,ry,q⟩=>thn (ha pins s1 σ H1 _ I1 q) fun ov s2 ⟨x,H2,I2,rx,e,C,d,ex,h1,c,n,q2⟩=> ?_) hs
 subst ex
 obtain rfl:ov=Value.ref e:=rx
 obtain⟨vs,sl,e1,z⟩:=I2.exH h1
 rcases q2 with⟨rfl,q2⟩|⟨dx,fs,rfl,h2,l,q2⟩
 · refine wD I2.kIn e1 c n fun h' tk nn e2 k=> ?_
   have hd:=q2 s2.heap.objs.size (I2.hok.fresh (Nat.le_refl _))
   refine⟨σ,_,I2.exc0 h1 (Nat.le_refl _) k ⟨vs,sl,e2,z⟩ ⟨_,nn,fun g=> ?_,fun g hg=> ?_,(by show 1≤100;decide)⟩,hd⟩
   · have:=rp (fs:=[]) (f:=f) (mA:=fun _=>none) ry (fun _=>True.intro) g
     exact this
   · by_cases q:g=f
     · subst q;exact List.mem_cons_self
     · exact absurd (show (if g=f then some u else none)=none by rw[if_neg q]) hg
 · obtain⟨mA,n1,r,wi,l1⟩:=I2.exF h2
   refine wE I2.kIn e1 n1 wi (by rw[List.length_map];omega) c n fun h' tk nn k=> ?_
   obtain⟨o',es',ep',e',q'⟩:=id nn
   refine⟨σ,_,I2.write (x:=dx) (e:=dx) (by rw[h2];exact True.intro) (.inl rfl) k ⟨o',e'⟩ (wF ⟨_,nn,rp ry r,fun g hg=> ?_, ?_⟩),q2⟩
   · by_cases q:g=f
     · subst q;exact(iY g y fs).1
     · exact(iY f y fs).2 g (wi g (by intro z;exact hg (by show (if g=f then some u else mA g)=none;rw[if_neg q];exact z)))
   · have:=jC f y fs;omega
end
section
variable{prog:Program}{w:World}{A:Around}{E:Value→Shared→Prop}{s:Shared}{K:W.Frag}{x C:Addr}{d:Option Addr}{vs:Array Value}{sl:Array (Option Value)}
theorem pZ{h:Heap}{cd:ClassData}(X:K.In h)(hc:W.clsIn K C=some cd):∃c0 dd sl,h.get? C=some ⟨c0,dd, .cls cd,sl⟩:=by
 unfold W.clsIn at hc
 split at hc
 · rename_i ho
   cases hc
   exact⟨_,_,_,X _ _ ho⟩
 · cases hc
theorem mZ{M:Model}{rest:List Value}{hp:Heap}{g:Array GenState}{dr:Drawn}{t:Nat}{os:OsState}{ox:Obj}{c0:Value}{dd:Option Addr}{cd:ClassData}{sl:Array (Option Value)}{Q:Unit→Shared→Prop}
 (hx:hp.get? x=some ox)(hcl:ox.cls= .ref C)(hC:hp.get? C=some ⟨c0,dd, .cls cd,sl⟩)(sub:W.Looks M hp (isInstance (.ref x) (.type "ValueError")) true)(h:Q () ⟨hp,g,dr,t,os⟩):
 wpAny M A (checkBuiltinCall "ValueError.__init__" ⟨.ref x::rest,[]⟩) Q E ⟨hp,g,dr,t,os⟩:=by
 have F:=PySem.F.excBase_ValueError
 have hshort:=F.noStar
 simp only[checkBuiltinCall,F.initKind,F.initSplit,F.initRow]
 refine wpAny_bind (sub.at ?_)
 simp only[Bool.not_true,Bool.false_eq_true,if_false]
 repeat (first|(with_reducible refine wpAny_loadPart_at hx ?_;rw[hcl])|with_reducible refine wpAny_loadPart_at hC ?_|wp_step)
 refine wpAny_onRaise ?_
 rw[show ∀(a b:String) (n:Nat),Bind.check ⟨.positional,"*","ValueError", .self,[⟨"args", .varPos,false⟩]⟩ a b n (List.map (fun x=>x.fst) ({pos:=Value.ref x::rest}:Args).kw)=pure () from fun a b n=>check_star_args _ _ _ _ _ _]
 exact wpAny_pure h
theorem wH{v:Value}{Q:Value→Shared→Prop}(X:K.In s.heap)(hx:s.heap.get? x=some ⟨.ref C,d, .fields vs,sl⟩)(hz:vs.size=6∧vs[1]? =some .none)(c:XCls K C)
 (h:∀h' tk,(∀b o,b≠x→s.heap.get? b=some o→h'.get? b=some o)→(∃vs',h'.get? x=some ⟨.ref C,d, .fields vs',sl⟩∧vs'.size=6∧vs'[1]? =some .none)→Q .none {s with heap:=h',toks:=tk}):
 wpAny (model prog w) A (call (.builtin "ValueError.__init__") [.ref x,v]) Q E s:=by
 have F:=PySem.F.excBase_ValueError
 have ty:W.Looks (model prog w) s.heap (typeOf (.ref x)) (.ref C):=(W.Looks.ld hx).andThen .now
 have sub:W.Looks (model prog w) s.heap (isInstance (.ref x) (.type "ValueError")) true:=by
  obtain⟨cd,hc,_,ht⟩:=c.cd
  exact ty.andThen (W.looks_mroIn X (by unfold W.mroIn;rw[hc,Option.bind_some,if_neg (by rw[jf _ ht];decide),d5 "ValueError" (by decide) _ ht]))
 obtain⟨cd,hc,_,_⟩:=c.cd
 obtain⟨c0,dd,slC,hC⟩:=pZ X hc
 obtain⟨hp,g,dr,t,os⟩:=s
 dsimp only at hx h hC sub
 refine wpAny_call (codeAny_call_builtin F.init.plain F.initEntry (mZ hx rfl hC sub ?_))
 have hz1:=hz.1
 have h0:vs[0]? =some (vs[0]'(by omega)):=Array.getElem?_eq_getElem (by omega)
 unfold Builtin.«BaseException.__init__»
 wp_walk
 rw[h0]
 have hx₁:(hp.push {cls:= .type "tuple",data:= .seq #[v]}).get? x=some ⟨.ref C,d, .fields vs,sl⟩:=Heap.get?_push_of_some _ hx
 refine wpAny_pure (wpAny_bind (wpAny_setField hx₁ rfl (by omega) ?_))
 have kk:Q .none ⟨(hp.push {cls:= .type "tuple",data:= .seq #[v]}).update x (Obj.mapFields (·.setIfInBounds 0 (.ref hp.objs.size))),g,dr,t,os⟩:=by
  refine h _ t (fun b o hb eb=> ?_) ⟨vs.setIfInBounds 0 (.ref hp.objs.size), ?_, ?_⟩
  · rw[Heap.get?_update_other _ _ (Ne.symm hb)]
    exact Heap.get?_push_of_some _ eb
  · rw[Heap.get?_update_self _ hx₁ rfl]
    rfl
  · exact⟨by rw[Array.size_setIfInBounds];exact hz.1,by rw[Array.getElem?_setIfInBounds_ne (by decide)];exact hz.2⟩
 generalize vs[0]=old
 cases old with
 |ref a=>exact wpAny_letGo (wpAny_pure kk)
 |_=>exact wpAny_pure (wpAny_pure kk)
end
structure XBase(K:PySem.W.Frag)(W:Addr):Prop where
 hg:PySem.W.specialIn K (.ref W) "__getattribute__"=some (some (.builtin "type.__getattribute__"))
 rd:PySem.W.readsIn K W (.type "type")=true
 fc:PySem.W.findCls K (.ref W) (.type "type") "__init__"=some (.val (.builtin "ValueError.__init__"))
def BQ(K:W.Frag)(t:TA):TE:=fun σ H Q=>t σ H fun vs H1=>∃e C d m,vs=[.ref e,m]∧H1 e=some (L2.exH e C d)∧XCls K C∧Q .non H1
theorem wI{X:Cx}{b:Str}{W:Addr}{p apos pos:Pos}{e1 e2:Expr}{t:TA}{pl:Sem Bool}(fb:XBase X.K W)(hg:Gl X b)(hm:X.mg b=some (.ref W))(ha:PA X [e1,e2] t)(hdb:(b==("__debug__":Str))=false:=by decide)
 (hst:starEach [e1,e2] X.env=(false,eval e1 X.env)::starEach [e2] X.env:=by rfl)(hpl:(backTo pos (starEach [e2] X.env)).any (·.1)=false:=by rfl)
 (ht:eval (.Call (.Attribute (.Name b p) "__init__" apos) [e1,e2] [] pos) X.env=(do
  let ov ←eval (.Name b p) X.env
  standAt apos.atName
  let(f,first) ←holding [ov] (getMethod ov "__init__" pl)
  callWith pos f first (backTo pos (starEach [e1,e2] X.env)) (backToKw pos (keywordEach [] X.env))):=by rfl):
 PE X (.Call (.Attribute (.Name b p) "__init__" apos) [e1,e2] [] pos) (BQ X.K t):=by
 intro pins s σ H Q I h
 refine PySem.W.methodCall_KW (pl:=pl) (jW I hg hm ?_ hdb) ht
 refine PySem.W.method_cls I.kIn fb.hg (PySem.W.cls_value I.kIn fb.rd fb.fc rfl ?_)
 have hA:=ha pos pins _ σ H _ (I.tok (s.toks+1)) h
 rw[hst] at hA ⊢
 refine Calls.callWith_builtin (by show (false||(backTo pos (starEach [e2] X.env)).any (·.1))=false;rw[hpl]<;>rfl) (Calls.evalArgs_plain ?_)
 refine thn hA fun us s2 ⟨vs,H2,I2,r2,e,C,d,m,ev,h1,c,q⟩=> ?_
 subst ev
 obtain⟨u1,u2,rfl,ru1,ru2⟩:=r2.two
 cases ru1
 obtain⟨ws,sl,ex,z⟩:=I2.exH h1
 refine wH I2.kIn ex z c fun h' tk k ⟨ws',ex',z'⟩=> ?_
 have I3:=I2.write (t':=tk) (x:=e) (e:=e) (o:=L2.exH e C d) (by rw[h1];exact True.intro) (.inl rfl) k ⟨_,ex'⟩ (sI ⟨ws',sl,ex',z'⟩)
 have eH:upd H2 e (L2.exH e C d)=H2:=by
  funext b
  by_cases q:b=e
  · subst q;rw[aI,h1]
  · rw[aJ q]
 rw[eH] at I3
 exact⟨.non,H2,I3,rfl,q⟩
end L2
namespace L2
open PySem PySem.Spec PyProof.Rows
def pk(K:W.Frag)(C:Addr):Bool:=match K.lookup C with
 |some ⟨.type "type",_, .cls cd,sl⟩=>(match cd.mro,sl.toList with
  | .ref C'::bm,[_,_,_,_,some (.builtin n),_]=>C'==C&&n=="ValueError.__new__"&& !cd.hasDel&&dZ bm
  |_,_=>false)
 |_=>false
theorem BR{K:W.Frag}{C:Addr}{h:Heap}(X:K.In h)(z:pk K C=true):∃nm q N bs bm hdct sn sub ab col dd k0 k1 k2 k3 k5,h.get? C=some (excClassObj nm q C N bs bm hdct sn sub ab col dd k0 k1 k2 k3 k5 "ValueError.__new__")∧dZ bm=true:=by
 unfold pk at z
 split at z
 · rename_i dd cd sl ho
   split at z
   · rename_i C' bm k0 k1 k2 k3 n k5 hm hs
     simp only[Bool.and_eq_true,beq_iff_eq,Bool.not_eq_true'] at z
     obtain⟨⟨⟨rfl,rfl⟩,hdel⟩,ht⟩:=z
     obtain⟨nm,bs,mro,ns,qn,hd,sn,sub,ab,col,del⟩:=cd
     dsimp only at hm hdel
     subst hm hdel
     have hsl:sl= #[k0,k1,k2,k3,some (.builtin "ValueError.__new__"),k5]:=by
      obtain⟨l⟩:=sl
      simp only at hs
      rw[hs]
     subst hsl
     exact⟨nm,qn,ns,bs,bm,hd,sn,sub,ab,col,dd,k0,k1,k2,k3,k5,X _ _ ho,ht⟩
   · cases z
 · cases z
theorem md(T:String)(hT:[Value.type "ValueError", .type "Exception", .type "BaseException", .type "object"].contains (.type T)=false)(l:List Value)(e:dZ l=true):l.contains (.type T)=false:=
 gE (P:=fun l=>l.contains (.type T)=false) hT (fun c r h=>by rw[List.contains_cons,h];rfl) l e
section
variable{prog:Program}{w:World}{M:Model}{A:Around}{E:Value→Shared→Prop}{R:Result→Shared→Prop}{h:Heap}{g:Array GenState}{d:Drawn}{t:Nat}{os:OsState}{K:W.Frag}
variable{nm q:Str}{C N:Addr}{bs bm:List Value}{hdct:Bool}{sn:List Str}{sub:List Value}{ab:Bool}{col:Option Bool}{dd:Option Addr}{k0 k1 k2 k3 k5:Option Value}{rest:List Value}
theorem sJ{Q:Unit→Shared→Prop}(hC:h.get? C=some (excClassObj nm q C N bs bm hdct sn sub ab col dd k0 k1 k2 k3 k5 "ValueError.__new__"))(ht:dZ bm=true)(hq:Q () ⟨h,g,d,t,os⟩):
 wpAny M A (checkBuiltinCall "ValueError.__new__" ⟨.ref C::rest,[]⟩) Q E ⟨h,g,d,t,os⟩:=by
 have F:=PySem.F.excBase_ValueError
 have e1:(Value.ref C::bm).contains (.type "ValueError")=true:=d5 "ValueError" (by decide) (.ref C::bm) ht
 have e2:=F.noStar
 simp only[checkBuiltinCall,F.newKind,F.newSplit,F.newRow]
 repeat (first|refine wpAny_loadPart_at hC ?_|(refine wpAny_isSubtype_exc hC ?_;rw[e1])|refine wpAny_staticBase_exc hC ?_|refine wpAny_madeBy_exc hC ?_|simp only[bne_self_eq_false,Bool.false_eq_true,if_false]|wp_step)
 exact hq
theorem vn(hC:h.get? C=some (excClassObj nm q C N bs bm hdct sn sub ab col dd k0 k1 k2 k3 k5 "ValueError.__new__"))(ht:dZ bm=true)(hz:rest.length≤sizeLine)
 (hq:R (.ok (.ret (.ref (h.objs.size+1)))) ⟨(h.push {cls:= .type "tuple",data:= .seq rest.toArray}).push {cls:= .ref C,data:= .fields #[.ref h.objs.size, .none, .none, .none, .bool false, .none]},g,d,t,os⟩):
 codeAny (model prog w) A (.builtin "ValueError.__new__" ⟨.ref C::rest,[]⟩) R ⟨h,g,d,t,os⟩:=by
 have F:=PySem.F.excBase_ValueError
 have e0:=F.ends
 have e1:(Value.ref C::bm).contains (.type "ValueError")=true:=d5 "ValueError" (by decide) (.ref C::bm) ht
 have e2:(Value.ref C::bm).contains (.type "AttributeError")=false:=md "AttributeError" (by decide) (.ref C::bm) ht
 have e3:(Value.ref C::bm).contains (.type "NameError")=false:=md "NameError" (by decide) (.ref C::bm) ht
 refine codeAny_builtinAt F.entry ?_
 unfold Builtin.«BaseException.__new__»
 refine PySem.wpAt_bind ?_
 show PySem.wpAt _ _ _ (stack>>=_) _ _ _
 refine PySem.wpAt_bind (PySem.wpAt_stack fun p below=>PySem.wpAt_of_wpAny ?_)
 wp_walk
 refine PySem.wpAt_of_wpAny ?_
 rw[F.owner]
 repeat (first|with_reducible refine wpAny_madeHere_exc F.canon hC ?_|with_reducible refine wpAny_loadPart_at hC ?_|(with_reducible refine wpAny_isSubtype_exc hC ?_;first|rw[e1]|rw[e2]|rw[e3])|wp_step)
 show R _ _
 rw[Heap.size_push]
 exact hq
theorem sK{Q:Fin→Shared→Prop}{fI:Addr}(X:K.In h)(hC:h.get? C=some (excClassObj nm q C N bs bm hdct sn sub ab col dd k0 k1 k2 k3 k5 "ValueError.__new__"))(ht:dZ bm=true)(hz:rest.length≤sizeLine)
 (hi:W.findIn K (.ref C) "__init__"=some (some (.ref fI)))(hf:W.typeIn K (.ref fI)=some (.type "function"))
 (hq:∀h' e,h.objs.size≤e→Heap.MadeExcOf h h' e (.ref C) rest→wpAny (model prog w) A (call (.ref fI) (.ref e::rest)) (fun r s'=>r= .none∧Q (.done (.ret (.ref e))) s') E ⟨h',g,d,t,os⟩):
 wpAny (model prog w) A (Builtin.«type.__call__» ⟨.ref C::rest,[]⟩) Q E ⟨h,g,d,t,os⟩:=by
 have F:=PySem.F.excBase_ValueError
 repeat (first|with_reducible refine wpAny_loadPart_at hC ?_|with_reducible refine wpAny_madeBy_exc hC ?_|wp_step)
 refine codeAny_call_builtin_code (Code.quiet_builtin _ F.quiet) (sJ hC ht (vn hC ht hz ?_))
 show wpAny _ _ _ _ _ _
 have kp:∀b o,h.get? b=some o→((h.push {cls:= .type "tuple",data:= .seq rest.toArray}).push {cls:= .ref C,data:= .fields #[.ref h.objs.size, .none, .none, .none, .bool false, .none]}).get? b=some o:=fun b o e=>Heap.get?_push_of_some _ (Heap.get?_push_of_some _ e)
 have hC₁:=kp _ _ hC
 have X₁:=X.keeps kp
 have hg₁:((h.push {cls:= .type "tuple",data:= .seq rest.toArray}).push {cls:= .ref C,data:= .fields #[.ref h.objs.size, .none, .none, .none, .bool false, .none]}).get? (h.objs.size+1)=some
  {cls:= .ref C,data:= .fields #[.ref h.objs.size, .none, .none, .none, .bool false, .none]}:=by heap_get
 have e1:(Value.ref C::bm).contains (.ref C)=true:=by simp
 unfold isInstance
 repeat (first|with_reducible refine wpAny_loadPart_at hg₁ ?_|(with_reducible refine wpAny_isSubtype_exc hC₁ ?_;rw[e1])|wp_step)
 refine(W.looks_findIn X₁ hi).at ?_
 refine wpAny_holding (wpAny_bind ((W.bind_fn X₁ _ hf).at ?_))
 refine wpAny_bind (wpAny_mono (hq _ (h.objs.size+1) (Nat.le_succ _) ⟨kp,Heap.get?_none_of_le (Nat.le_succ _),h.objs.size,hg₁,Heap.get?_none_of_le (Nat.le_refl _),Heap.get?_push_of_some _ (Heap.get?_push_at rfl rfl)⟩) (fun r s' hr=> ?_) fun _ _ x=>x)
 obtain⟨rfl,hQ⟩:=hr
 wp_walk
 exact hQ
theorem DA{Q:Value→Shared→Prop}{fI:Addr}(X:K.In h)(z:pk K C=true)(hz:rest.length≤sizeLine)
 (hi:W.findIn K (.ref C) "__init__"=some (some (.ref fI)))(hf:W.typeIn K (.ref fI)=some (.type "function"))
 (hq:∀h' e,h.objs.size≤e→Heap.MadeExcOf h h' e (.ref C) rest→wpAny (model prog w) (A.under (.builtin "type.__call__" ⟨.ref C::rest,[]⟩)) (call (.ref fI) (.ref e::rest)) (fun r s'=>r= .none∧Q (.ref e) s') E ⟨h',g,d,t,os⟩):
 wpAny (model prog w) A (call (.ref C) rest) Q E ⟨h,g,d,t,os⟩:=by
 obtain⟨nm,q,N,bs,bm,hdct,sn,sub,ab,col,dd,k0,k1,k2,k3,k5,hC,ht⟩:=BR X z
 have f1:=tc_lookup
 have f2:=tc_bind (.ref C)
 have hT:(⟨h,g,d,t,os⟩:Shared).TypeIs (.ref C) "type":=⟨_,hC,rfl⟩
 refine wpAny_call (codeAny_of_tree ?_)
 show wpAny _ _ (callAny (.ref C) _) _ _ _
 repeat (any_goals (first|assumption|with_reducible refine wpAny_loadPart_at hC ?_|wp_step))
 refine⟨rfl,codeAny_call_builtin_at (Code.quiet_builtin _ (by decide+kernel)) entry_typeCall (wpAny_check_type_call_sub hC (sK X hC ht hz hi hf fun h' e he hm=> ?_))⟩
 exact hq h' e he hm
end
def sL(C:Addr)(sp:Sp)(dvs:List V)(E:XK)(t:TA):TE:=fun σ H Q=>t σ H fun vs H1=>vs.length≤1000∧∀e,H1 e=none→sp (.ref e::(vs++dvs)) (upd H1 e (L2.exH e C none)) (fun v H2=>v= .non∧Q (.ref e) H2) E
structure XMk(K:W.Frag)(C f:Addr):Prop where
 makes:pk K C=true
 init:W.findIn K (.ref C) "__init__"=some (some (.ref f))
 fn:W.isFn K (.ref f)=true
 kp:W.keepIn K (.ref C)=true
theorem wJ{X:Cx}{pins:List (Addr×Obj)}{σ:St}{H:Hp}{s:Shared}{h':Heap}{e C:Addr}{us:List Value}(I:Inv X pins σ H s)(he:s.heap.objs.size≤e)(m:Heap.MadeExcOf s.heap h' e (.ref C) us):Inv X pins σ (upd H e (L2.exH e C none)) {s with heap:=h'}:=by
 obtain⟨t,e1,_,_⟩:=m.there
 exact I.laid (t':=s.toks) m.keeps he (sI ⟨_,_,e1,rfl,rfl⟩)
section
variable{X:Cx}{CX:CXT}{k:Nat}{f C:Addr}{fd:FuncData}{ps:List Str}{sp:Sp}{dvs:List V}{ds:List Value}{E:XK}{x:Str}{p pos:Pos}{e:Expr}{es:List Expr}{t:TA}
theorem wK(M:XMk X.K C f)(F:FnOk X.prog X.w X.K X.mg X.base CX k f fd ps sp)(hr:Room (k+1) X.A)(hg:Gl X x)(hm:X.mg x=some (.ref C))(hb:Binds X.K fd ps ds)(hd:Vals dvs ds)(hx:kq CX X E)
 (ha:PA X (e::es) t)(hdb:(x==("__debug__":Str))=false:=by decide)(he:starEach (e::es) X.env=(false,eval e X.env)::starEach es X.env:=by rfl)(hpl:(backTo pos (starEach es X.env)).any (·.1)=false:=by rfl):
 PE X (.Call (.Name x p) (e::es) [] pos) (sL C sp dvs E t):=by
 intro pins s σ H Q I h
 refine wpAny_Call_Name_kw (jW I hg hm ?_ hdb)
 refine W.callWith_K (h₀:=X.base) I.ok.mod.kin M.kp (thn (ha pos pins s σ H _ I h) fun us s1 ⟨vs,H1,I1,r,hl1,q⟩=>⟨I1.kIn, ?_⟩) he hpl
 have hz:us.length≤sizeLine:=by rw[←r.length];exact Nat.le_of_lt (vk hl1)
 obtain⟨hp,g,dr,tk,os⟩:=s1
 refine DA I1.kIn M.makes hz M.init (beq_iff_eq.mp M.fn) fun h' a ha' hmd=> ?_
 have hq:=q a (I1.hok.fresh ha')
 have I2:=wJ I1 ha' hmd
 have r2:Vals (V.ref a::(vs++dvs)) (Value.ref a::(us++ds)):= .cons rfl (r.append hd)
 have hl:(Value.ref a::us++ds).length=ps.length:=by
  have e:=r2.length
  rw[F.len _ _ _ _ hq] at e
  exact e.symm
 refine wpAny_call (codeAny_mono (F.run _ X.stack _ _ ⟨Value.ref a::us,[]⟩ (Value.ref a::(us++ds)) _ _ E (hr.make C us []) (I2.env0.make C us []) (hb _ (Value.ref a::us) I2.kIn hl) r2 hq) fun r s' hq'=> ?_)
 cases r with
 |error e=>exact hx pins σ _ _ e s' I2 hq'
 |ok fl=>
  cases fl with
  |ret u=>
   obtain⟨v,H',I3,rv,ev,q3⟩:=I2.after hq'
   subst ev
   exact⟨rv,⟨V.ref a,H',I3,rfl,q3⟩⟩
  |next=>exact False.elim hq'
  |brk=>exact False.elim hq'
  |cont=>exact False.elim hq'
end
structure XIs(K:W.Frag)(C:Addr):Prop where
 cls:XCls K C
 ca:W.findIn K (.ref C) "__class__"=some (some (.builtin "object.__class__"))
 cg:W.specialIn K (.builtin "object.__class__") "__get__"=some (some (.builtin "getset_descriptor.__get__"))
 ct:W.takesIn K (.builtin "object.__class__")=some true
section
variable{prog:Program}{w:World}{A:Around}{E:Value→Shared→Prop}{s:Shared}{K:W.Frag}{x C:Addr}{ox:Obj}{od:Option Obj}{name:Str}
theorem XCls.top(c:XCls K C):W.mroIn K C (.type "object")=some true:=by
 obtain⟨cd,hc,_,ht⟩:=c.cd
 unfold W.mroIn
 rw[hc,Option.bind_some,if_neg (by rw[jf _ ht];decide),d5 "object" (by decide) _ ht]
theorem vo{Q:Option Value→Shared→Prop}(X:K.In s.heap)(I:W.InstAt s.heap x ox C od)(c:XIs K C)(h:Q (some (.ref C)) {s with toks:=s.toks+1}):wpAny (model prog w) A (getAttr? (.ref x) "__class__") Q E s:=by
 have FX:=PySem.F.excAttr_ValueError
 have sub:=c.cls.under X I (M:=model prog w) "BaseException" (by decide)
 have hf:W.findObj K C od "__class__"=some (.bind (.builtin "getset_descriptor.__get__") (.builtin "object.__class__")):=by
  obtain⟨cd,hc,_⟩:=c.cls.cd
  unfold W.findObj
  rw[hc,Option.bind_some,c.ca,Option.bind_some]
  simp[c.cg,c.ct]
 obtain⟨hp,g,d,t,os⟩:=s
 have t0:=I.type (M:=model prog w)
 have t1:=W.looks_findIn (M:=model prog w) X c.cls.ga
 have t2:=W.looks_hook (mc:= .ref C) (M:=model prog w) X (r:=none) (by rw[if_pos (by rfl)];exact c.cls.gk)
 have t3:=W.looks_find (M:=model prog w) X I hf
 unfold getAttr? getAttrBy? getAttrBy
 refine wpAny_bind (wpAny_mkText (wpAny_bind (wpAny_attempt (wpAny_holding (wpAny_bind (t0.at (wpAny_bind (t1.at ?_))))))))
 dsimp only
 have nq:(Value.builtin "BaseException.__getattribute__"==Value.builtin "object.__getattribute__")=false:=by decide+kernel
 rw[nq,Bool.and_false,if_neg Bool.false_ne_true]
 unfold getAttrByItsOwn
 refine wpAny_bind (t2.at (wpAny_bind (wpAny_attempt (wpAny_holding ?_))))
 unfold callGetattribute
 rw[show (false&&onTheHeap (Value.builtin "BaseException.__getattribute__"))=false from rfl,if_neg Bool.false_ne_true]
 unfold boundAndCalled
 rw[FX.ga.bind]
 refine wpAny_bind (wpAny_pure ?_)
 show wpAny _ _ (call (.builtin "BaseException.__getattribute__") [.ref x, .str "__class__" t]) _ _ _
 refine wpAny_call (codeAny_call_builtin FX.ga.plain PySem.F.entry_bexc_ga (@W.check_slot (model prog w) _ _ ⟨hp,g,d,t+1,os⟩ "BaseException.__getattribute__" "BaseException" "__getattribute__" (.ref x) [.str "__class__" t] [] _ (by decide+kernel) (by decide+kernel) sub (PySem.F.args_bexc_ga (.ref x) (.str "__class__" t)) ?_))
 unfold Builtin.«object.__getattribute__»
 refine wpAny_bind (wpAny_of_eq (a:=(Value.ref x,[Value.str "__class__" t])) rfl ?_)
 refine wpAny_bind (wpAny_of_eq (a:=Str.ofString "__class__") rfl ?_)
 refine wpAny_bind (t0.at (wpAny_bind (t3.at ?_)))
 show wpAny _ _ (holding [Value.builtin "object.__class__"] (call (.builtin "getset_descriptor.__get__") [.builtin "object.__class__", .ref x, .ref C])>>=ret) _ _ _
 refine wpAny_bind (wpAny_holding (wpAny_call (W.class_get (s:=⟨hp,g,d,t+1,os⟩) X I c.cls.top (wpAny_pure ?_))))
 exact W.handed_on rfl (wpAny_pure h)
theorem zq(c:XIs K C):W.KitX K (.ref x) (.ref C) (fun h=>∃ox od,W.InstAt h x ox C od) where
 ty:=fun _ _ _ ⟨_,_,I⟩=>I.type
 it:=fun _ _ X _=>by
  obtain⟨cd,hc,_⟩:=c.cls.cd
  intro A' Q' E' s' k q
  obtain⟨c0,dd,sl,ho⟩:=pZ X hc
  unfold isType loadHead
  exact wpAny_bind (wpAny_loadPart (k _ _ ho) (wpAny_pure q))
 ne:=fun h tp dd its n sl X htp=>by
  obtain⟨cd,hc,_⟩:=c.cls.cd
  obtain⟨c0,dd',sl',ho⟩:=pZ X hc
  refine Bool.eq_false_iff.mpr fun q=> ?_
  have e:C=tp:=Value.ref.inj (beq_iff_eq.mp q)
  subst e
  rw[ho] at htp
  cases htp
 ca:=fun X ⟨_,_,I⟩ k=>vo X I c k
end
section
variable{X:Cx}
theorem Inv.xinst{pins:List (Addr×Obj)}{σ:St}{H:Hp}{s:Shared}{e C:Addr}{d:Option Addr}(I:Inv X pins σ H s)(h:ExAt H e C d)(hd:∀dx,d=some dx→∃fs,H dx=some (L2.exF dx fs)):∃ox od,W.InstAt s.heap e ox C od:=by
 obtain⟨vs,sl,e1,_⟩:=I.exA h
 cases d with
 |none=>exact⟨_,none,e1,rfl,rfl,True.intro⟩
 |some dx=>
  obtain⟨fs,h2⟩:=hd dx rfl
  obtain⟨mA,n1,_⟩:=I.exF h2
  obtain⟨o,es,ep,e2,_⟩:=n1
  exact⟨_,some o,e1,rfl,rfl,e2⟩
def wL(K:W.Frag):List V→Hp→VK→Prop:=fun xs H Q=>∃e C d c b,xs=[.ref e,c]∧ExAt H e C d∧(∀dx,d=some dx→∃fs,H dx=some (L2.exF dx fs))∧XIs K C∧(∀u,RelV c u→W.kitOne K (.ref C) u=some b)∧Q (.bl b) H
theorem gF:CallR X (.builtin "isinstance") (wL X.K):=by
 intro pins s σ H xs us Q I r h
 obtain⟨e,C,d,c,b,rfl,h1,h2,cc,hk,q⟩:=h
 obtain⟨u,v,rfl,rx,rv⟩:=Vals.two r
 cases rx
 exact W.kia_one (zq cc) I.kIn (I.xinst h1 h2) (hk v rv) (fun z=>nomatch z) fun tk=>⟨.bl b,H,I.tok _,rfl,q⟩
end
section
variable{prog:Program}{w:World}{A:Around}{E:Value→Shared→Prop}{h:Heap}{g:Array GenState}{d:Drawn}{t:Nat}{os:OsState}{K:W.Frag}
variable{nm q:Str}{C N:Addr}{bs bm:List Value}{hdct:Bool}{sn:List Str}{sub:List Value}{ab:Bool}{col:Option Bool}{dd:Option Addr}{k0 k1 k2 k3 k5:Option Value}{v:Value}
end
def clA(K:W.Frag)(x:Str):Addr:=match W.nsIn K mainGlobals x with
 |some (some (.ref a))=>a
 |_=>0
theorem cN{K:W.Frag}{x:Str}{a:Addr}(h:W.nsIn K mainGlobals x=some (some (.ref a))):clA K x=a:=by
 unfold clA
 rw[h]
def xok(C:Addr)(cd:ClassData)(sl:Array (Option Value)):Bool:=cd.hasDict&&(match cd.mro,sl.toList with
 | .ref C'::bm,[_,_,_,_,some (.builtin n),_]=>C'==C&&n=="ValueError.__new__"&& !cd.hasDel&&dZ bm
 |_,_=>false)
structure XObj(K:W.Frag)(C:Addr)(cd:ClassData):Prop where
 ex:∃dd sl,K.lookup C=some ⟨.type "type",dd, .cls cd,sl⟩∧xok C cd sl=true
section
variable{K:W.Frag}{C D:Addr}{cd cd':ClassData}
theorem XObj.cls(x:XObj K C cd):W.clsIn K C=some cd:=by
 obtain⟨dd,sl,l,_⟩:=x.ex
 unfold W.clsIn
 rw[l]
theorem XObj.mk?(x:XObj K C cd):cd.hasDict=true∧pk K C=true∧∃bm,cd.mro= .ref C::bm∧dZ bm=true:=by
 obtain⟨dd,sl,l,o⟩:=x.ex
 unfold xok at o
 rw[Bool.and_eq_true] at o
 obtain⟨o1,o2⟩:=o
 refine⟨o1, ?_, ?_⟩
 · unfold pk
   rw[l]
   exact o2
 · split at o2
   · rename_i C' bm k0 k1 k2 k3 n k5 hm hs
     simp only[Bool.and_eq_true,beq_iff_eq,Bool.not_eq_true'] at o2
     obtain⟨⟨⟨rfl,_⟩,_⟩,ht⟩:=o2
     exact⟨bm,hm,ht⟩
   · cases o2
theorem XObj.type(x:XObj K C cd):W.typeIn K (.ref C)=some (.type "type"):=by
 obtain⟨dd,sl,l,_⟩:=x.ex
 show (K.lookup C).map (·.cls)=_
 rw[l]
 rfl
theorem XObj.sub(x:XObj K C cd)(v:Value):W.subIn K (.ref C) v=some (cd.mro.contains v):=by
 obtain⟨_,_,bm,hm,_⟩:=x.mk?
 show W.mroIn K C v=_
 unfold W.mroIn
 rw[x.cls,Option.bind_some,hm]
 rfl
structure KObj(K:W.Frag)(C:Addr)(cd:ClassData):Prop where
 cls:W.clsIn K C=some cd
 type:W.typeIn K (.ref C)=some (.type "type")
 mro:∃bm,cd.mro= .ref C::bm
theorem XObj.kobj(x:XObj K C cd):KObj K C cd:=⟨x.cls,x.type,let⟨_,_,bm,hm,_⟩:=x.mk?;⟨bm,hm⟩⟩
theorem KObj.sub(x:KObj K C cd)(v:Value):W.subIn K (.ref C) v=some (cd.mro.contains v):=by
 obtain⟨bm,hm⟩:=x.mro
 show W.mroIn K C v=_
 unfold W.mroIn
 rw[x.cls,Option.bind_some,hm]
 rfl
theorem KObj.kit(x:KObj K C cd)(y:KObj K D cd'):W.kitOne K (.ref C) (.ref D)=some (cd.mro.contains (.ref D)):=by
 unfold W.kitOne
 by_cases q:(Value.ref C==Value.ref D)=true
 · have e:C=D:=Value.ref.inj (beq_iff_eq.mp q)
   subst e
   obtain⟨bm,hm⟩:=x.mro
   rw[if_pos q,hm,List.contains_cons,q,Bool.true_or]
 · rw[if_neg q]
   unfold W.kitCls
   dsimp only
   rw[y.cls,y.type,x.sub]
   rw[if_pos (by rw[beq_self_eq_true];rfl)]
theorem XObj.val(x:XObj K C cd):W.kitOne K (.ref C) (.type "ValueError")=some true:=by
 obtain⟨_,_,bm,hm,ht⟩:=x.mk?
 unfold W.kitOne W.kitCls
 rw[if_neg (by intro q;cases beq_iff_eq.mp q)]
 dsimp only
 rw[if_pos (by decide+kernel),x.sub,hm,d5 "ValueError" (by decide) (.ref C::bm) ht]
end
structure XKd(K:W.Frag)(ns:List Str)(C:Addr)(ms fs:List Str):Prop where
 is:XIs K C
 kit:∀n∈ns,W.kitOne K (.ref C) (.ref (clA K n))=some (ms.contains n)
 val:W.kitOne K (.ref C) (.type "ValueError")=some true
 na:∀f∈fs,NoAttr K C f
 ty:W.typeIn K (.ref C)=some (.type "type")
 sub:∀n∈ns,W.subIn K (.ref C) (.ref (clA K n))=some (ms.contains n)
inductive Pts(K:W.Frag):List Str→List Addr→Prop
 |nil:Pts K [] []
 |cons {n:Str} {ns:List Str} {C:Addr} {Cs:List Addr} {cd:ClassData}:W.nsIn K mainGlobals n=some (some (.ref C))→KObj K C cd→Pts K ns Cs→Pts K (n::ns) (C::Cs)
section
variable{K:W.Frag}{C:Addr}{cd:ClassData}
theorem uf{ms:List Str}(x:KObj K C cd){ns:List Str}{Cs:List Addr}(p:Pts K ns Cs):(Cs.map fun D=>cd.mro.contains (.ref D))=ns.map ms.contains→∀n∈ns,W.kitOne K (.ref C) (.ref (clA K n))=some (ms.contains n):=by
 induction p with
 |nil=>intro _ n h;cases h
 |cons a y p ih=>
  intro e n h
  have e':=List.cons.inj e
  rcases List.mem_cons.mp h with rfl|h
  · rw[cN a,x.kit y]
    exact congrArg some e'.1
  · exact ih e'.2 n h
theorem zr{ms:List Str}(x:XObj K C cd){ns:List Str}{Cs:List Addr}(p:Pts K ns Cs):(Cs.map fun D=>cd.mro.contains (.ref D))=ns.map ms.contains→∀n∈ns,W.subIn K (.ref C) (.ref (clA K n))=some (ms.contains n):=by
 induction p with
 |nil=>intro _ n h;cases h
 |cons a y p ih=>
  intro e n h
  have e':=List.cons.inj e
  rcases List.mem_cons.mp h with rfl|h
  · rw[cN a,x.sub]
    exact congrArg some e'.1
  · exact ih e'.2 n h
theorem jg:∀f∈([]:List Str),NoAttr K C f:=fun _ h=>by cases h
theorem gw{f:Str}{fs:List Str}(h:W.findIn K (.ref C) f=some none)(t:∀g∈fs,NoAttr K C g):∀g∈f::fs,NoAttr K C g:=fun g hg=>by
 rcases List.mem_cons.mp hg with rfl|hg
 · exact h
 · exact t g hg
theorem jD{x:Str}{ns ms fs:List Str}{Cs:List Addr}(hn:W.nsIn K mainGlobals x=some (some (.ref C)))(o:XObj K C cd)(p:Pts K ns Cs)(e:(Cs.map fun D=>cd.mro.contains (.ref D))=ns.map ms.contains)
 (ga:W.findIn K (.ref C) "__getattribute__"=some (some (.builtin "BaseException.__getattribute__")))(gk:W.findIn K (.ref C) "__getattr__"=some none)(sa:W.findIn K (.ref C) "__setattr__"=some (some (.builtin "object.__setattr__")))
 (ca:W.findIn K (.ref C) "__class__"=some (some (.builtin "object.__class__")))(cg:W.specialIn K (.builtin "object.__class__") "__get__"=some (some (.builtin "getset_descriptor.__get__")))(ct:W.takesIn K (.builtin "object.__class__")=some true)
 (na:∀f∈fs,NoAttr K C f):XKd K ns (clA K x) ms fs:=by
 rw[cN hn]
 obtain⟨hd,_,bm,hm,ht⟩:=o.mk?
 exact⟨⟨⟨⟨cd,o.cls,hd,by rw[hm];exact ht⟩,ga,gk,sa⟩,ca,cg,ct⟩,uf o.kobj p e,o.val,na,o.type,zr o p e⟩
theorem sM{x:Str}{f:Addr}(hn:W.nsIn K mainGlobals x=some (some (.ref C)))(o:XObj K C cd)(hi:W.findIn K (.ref C) "__init__"=some (some (.ref f)))(hf:W.isFn K (.ref f)=true)(kp:W.keepIn K (.ref C)=true):XMk K (clA K x) f:=by
 rw[cN hn]
 exact⟨o.mk?.2.1,hi,hf,kp⟩
theorem wM{x:Str}(hn:W.nsIn K mainGlobals x=some (some (.ref C)))(hg:W.specialIn K (.ref C) "__getattribute__"=some (some (.builtin "type.__getattribute__")))(rd:W.readsIn K C (.type "type")=true)
 (fc:W.findCls K (.ref C) (.type "type") "__init__"=some (.val (.builtin "ValueError.__init__"))):XBase K (clA K x):=by
 rw[cN hn]
 exact⟨hg,rd,fc⟩
end
structure GotX(P:Program)(w:World)(K:W.Frag)(mg:Str→Option Value)(base:Heap)(k:Nat)(x:Str)(ps:List Str)(sp:Sp):Prop where
 ex:∃f fd,XMk K (clA K x) f∧FnOk P w K mg base CX0 k f fd ps sp∧Binds K fd ps []∧mg x=some (.ref (clA K x))
section
variable{X:Cx}{k n:Nat}{x:Str}{ps:List Str}{sp:Sp}{p pos:Pos}{e:Expr}{es:List Expr}{t:TA}
theorem m6(g:GotX X.prog X.w X.K X.mg X.base k x ps sp)(hr:Room n X.A)(hk:k+1≤n)(hg:Gl X x)(ha:PA X (e::es) t)(hdb:(x==("__debug__":Str))=false:=by decide)
 (he:starEach (e::es) X.env=(false,eval e X.env)::starEach es X.env:=by rfl)(hpl:(backTo pos (starEach es X.env)).any (·.1)=false:=by rfl):
 PE X (.Call (.Name x p) (e::es) [] pos) (sL (clA X.K x) sp [] E0 t):=by
 obtain⟨f,fd,M,F,hb,hm⟩:=g.ex
 exact wK M F (hr.mono hk) hg hm hb .nil wj ha hdb he hpl
theorem gP(hg:Gl X x)(h:X.mg x=some (.ref (clA X.K x)))(hd:(x==("__debug__":Str))=false:=by decide):PE X (.Name x pos) (tC (.ref (clA X.K x))):=tS hg h rfl hd
end
def DB(σ σ':St):Prop:=σ.length=σ'.length∧∀(j:Nat) (v:V),σ[j]? =some (some v)→σ'[j]? =some (some v)
def kJ(kx:Nat)(cap:List Nat)(σ:St):St:=List.replicate kx none++cap.map fun i=>(σ[i]?).join
def vp(J:It)(kx:Nat)(g:TG)(tc:TT)(te:TE)(cap:List Nat)(σ:St)(Q:VK)(H1:Hp):Prop:=∀acc,H1 acc=none→∃W:Nat→Nat→Hp→Prop,(∃m,W 0 m (upd H1 acc (.lst [])))∧∀i m H,W i m H→
 (J.stop i H∧Q (.ref acc) H)∨(J.go i H∧∀x H',J.yld i H x H'→g x (kJ kx cap σ) H' fun σ2 H2=>DB (kJ kx cap σ) σ2∧tc σ2 H2 fun b H3=>if b=true then te σ2 H3 fun y H4=>∃ys,H4 acc=some (.lst ys)∧ys.length<sizeLine∧∃m',m'<m∧W (i+1) m' (upd H4 acc (.lst (ys++[y]))) else ∃m',m'<m∧W (i+1) m' H3)
def sN(wi:TI)(kx:Nat)(g:TG)(tc:TT)(te:TE)(cap:List Nat):TE:=fun σ H Q=>wi σ H fun J H1=>vp J kx g tc te cap σ Q H1
section
variable{X:Cx}{pins:List (Addr×Obj)}{σ:St}{H:Hp}{s:Shared}
structure CompScopeT(X:Cx)(scope:Scope)(xs:List Str)(cn:List Str)(cap:List Nat):Prop where
 kind:scope.kind= .function
 names:∀y∈scope.names,y.2= .local→scope.names.lookup y.1=some .local
 cell:∀y∈scope.names,y.2≠ .cell
 own:∀y∈xs,scope.names.lookup y=some .local
 free:∀y∈scope.names,y.2= .free→X.env.kindOf y.1=some .cell∨X.env.kindOf y.1=some .free
 cap:cap.map (fun i=>X.N[i]?)=cn.map some
 capf:∀y∈cn,scope.names.lookup y=some .free
 capo:∀y∈cn,X.env.scope.names.lookup y=some .cell∨X.env.scope.names.lookup y=some .free
 nd:(xs++cn).Nodup
theorem wN{scope:Scope}{xs:List Str}{cn:List Str}{cap:List Nat}{cl:List (Str×Addr)}{C:Addr}{fp:List Addr}(S:CompScopeT X scope xs cn cap)(I:Inv X pins σ H s)(hf:∀b∈fp,j5 X pins H b)(hlt:∀b∈fp,b<s.heap.objs.size)
 (hc1:∀y c,cl.lookup y=some c→X.env.cells.lookup y=some c)(hc2:∀y,(y,NameKind.free)∈scope.names→∃c,cl.lookup y=some c)(hC:s.heap.objs.size≤C):(bJ X scope (xs++cn) cl C s H fp).Ok where
 mod:=I.ok.mod
 kind:=S.kind
 glob:=I.ok.glob
 blt:=I.ok.blt
 above:=hC
 inj:=fun y z c h1 h2=>I.ok.inj y z c (hc1 y c h1) (hc1 z c h2)
 has:=fun y h=>hc2 y (ik (env:=X.env) S.cell h)
 cab:=fun y c h=>by cases (show false=true from h)
 hd:=I.ok.hd
 frames:=I.ok.frames
 stk:= .inl rfl
 exf:=fun b hb=>⟨Nat.ne_of_lt (Nat.lt_of_lt_of_le (hlt b hb) hC),fun y c h=>(hf b hb).2.2.2.2.1 y c (hc1 y c h)⟩
 bs:=I.bs
 bsz:=Nat.le_trans I.ok.bsz I.sz
 noex:=fun b o e hb=>by
  rcases(hf b hb).2.2.2.1 with z|z
  · exact I.ok.noex b o e z
  · have h1:=Heap.lt_size e
    exact absurd (Nat.lt_of_lt_of_le h1 (Nat.le_trans I.ok.bsz z)) (Nat.lt_irrefl _)
 exfs:=fun b hb z=>by
  rcases List.mem_cons.mp (I.stkSub b z) with q|q
  · exact(hf b hb).2.1 q
  · exact(hf b hb).2.2.1 q
 funs:=I.stack
 frf:=I.stkFree
theorem sO{elt iter tg:Expr}{xs:List Str}{kx:Nat}{g:TG}{ifs:List Expr}{scope:Scope}{pos:Pos}{wi:TI}{tc:TT}{te:TE}(cn:List Str)(cap:List Nat)(S:CompScopeT X scope xs cn cap)(hc:X.calm=true)
 (hkx:xs.length=kx)(hg:∀cl C s₀ H₀ ex,PG (bJ X scope (xs++cn) cl C s₀ H₀ ex) tg g)
 (hi:PI X tg iter wi)(hin:∀cl C s₀ H₀ ex,wn (bJ X scope (xs++cn) cl C s₀ H₀ ex) ifs tc)(he:∀cl C s₀ H₀ ex,PE (bJ X scope (xs++cn) cl C s₀ H₀ ex) elt te)
 (hs:∀z,foldedSetIterable iter X.env z=pure z){use:Option (Value→Sem Unit)}{Q:VK}{Q':Value→Shared→Prop}{pins:List (Addr×Obj)}{s:Shared}{σ:St}{H:Hp}(I:Inv X pins σ H s)(h:sN wi kx g tc te cap σ H Q)
 (fin:∀(d C:Addr) (H':Hp) (s':Shared) (m:_),Inv X pins σ H' s'→j5 X pins H' C→s'.heap.Ns C m→Q (.ref d) H'→∀r,compPost (model X.prog X.w) X.A X.xe use Q' (.ref d) C (.ok r) s'):
 wpAny (model X.prog X.w) X.A (comprehension (.ListComp elt [⟨tg,iter,ifs,0⟩] scope pos) scope X.env (firstIterPos [⟨tg,iter,ifs,0⟩] pos) (newList []) false (firstIter [⟨tg,iter,ifs,0⟩] X.env) use) Q' X.xe s:=by
 obtain⟨cl,hclos,hc1,hc2⟩:=mT (scope:=scope) (env:=X.env) fun y hy hk=>I.ok.has y.1 (S.free y hy hk)
 refine wpAny_comprehension_free (use:=use) rfl hs hclos S.kind S.names (thn (hi pins s σ H _ I h) fun v s1 h1=>thn h1 fun itv s2 h2=> ?_)
 obtain⟨it,fp,tn,J,H2,e,I2,T,st2,f2,q2⟩:=h2
 subst e
 have hlt:∀b∈fp,b<s2.heap.objs.size:=fun b hb=>by
  obtain⟨o,e,_⟩:=T.obj _ _ st2 b hb
  exact Heap.lt_size e
 refine wpAny_newObj_type (wpAny_newFunctionEnv S.cell (by intro y hy;simp at hy) (fun h₁ hns₁ hsb₁=> ?_) S.kind)
 dsimp only at hns₁ hsb₁ ⊢
 generalize hP:s2.heap.push {cls:= .type "list",dict:=none,data:= .seq ([]:List Value).toArray}=P2 at hns₁ hsb₁ ⊢
 have hC:P2.objs.size=s2.heap.objs.size+1:=by rw[←hP,Heap.size_push]
 have hDC:s2.heap.objs.size≠P2.objs.size:=by rw[hC];exact Nat.ne_of_lt (Nat.lt_succ_self _)
 have hCle:s2.heap.objs.size≤P2.objs.size:=by rw[hC];exact Nat.le_succ _
 have neC:∀b,b<s2.heap.objs.size→b≠P2.objs.size:=fun b hb=>by rw[hC];exact Nat.ne_of_lt (Nat.lt_succ_of_lt hb)
 have old:∀b o,s2.heap.get? b=some o→h₁.get? b=some o:=fun b o e=>hsb₁.extBut b o (neC b (Heap.lt_size e)) (Heap.get?_push_of_some _ (hP▸Heap.get?_push_of_some _ e))
 have hacc:h₁.get? s2.heap.objs.size=some {cls:= .type "list",dict:=none,data:= .seq ([]:List Value).toArray}:=hsb₁.extBut _ _ hDC (Heap.get?_push_of_some _ (hP▸Heap.get?_push_size _ rfl))
 have hD0:H2 s2.heap.objs.size=none:=I2.hok.fresh (Nat.le_refl _)
 have ok':(bJ X scope (xs++cn) cl P2.objs.size s2 H2 fp).Ok:=wN S I2 f2 hlt hc1 hc2 hCle
 obtain⟨W,⟨m0,w0⟩,turn⟩:=q2 _ hD0
 have hok1:HOk X.prog X.w (upd H2 s2.heap.objs.size (.lst [])) h₁:=I2.hok.laid old (Nat.le_refl _) ⟨Nat.zero_le _,[],_, .nil,hacc⟩
 have un1:Un (frs X.stack) fp H2 (upd H2 s2.heap.objs.size (.lst [])) s2.heap h₁:=Un.laid old (Nat.le_refl _) hD0
 have I4:∀tk,Inv (bJ X scope (xs++cn) cl P2.objs.size s2 H2 fp) [] (kJ kx cap σ) (upd H2 s2.heap.objs.size (.lst [])) {s2 with heap:=h₁,toks:=tk}:=fun tk=>by
  refine⟨ok',rfl,I2.bare,un1,⟨_,hns₁,fun i y v e1 e2 e3=> ?_⟩,fun y c e=> ?_, ?_,fun y c e=> ?_,fun p hp=>(nomatch hp),hok1, ?_⟩
  · by_cases hik:i<kx
    · have e2':(List.replicate kx (none:Option V)++cap.map fun i=>(σ[i]?).join)[i]? =some (some v):=e2
      rw[List.getElem?_append_left (by rw[List.length_replicate];exact hik),List.getElem?_replicate,if_pos hik] at e2'
      cases Option.some.inj e2'
    · have e1'':(xs++cn)[i]? =some y:=e1
      have e1':cn[i-kx]? =some y:=by
       rw[List.getElem?_append_right (by rw[hkx];exact Nat.le_of_not_lt hik),hkx] at e1''
       exact e1''
      have ymem:y∈cn:=List.mem_of_getElem? e1'
      obtain⟨i0,ci,ni⟩:=ub S.cap e1'
      have e2'':(List.replicate kx (none:Option V)++cap.map fun i=>(σ[i]?).join)[i]? =some (some v):=e2
      have e2':(cap.map fun i=>(σ[i]?).join)[i-kx]? =some (some v):=by
       rw[List.getElem?_append_right (by rw[List.length_replicate];exact Nat.le_of_not_lt hik),List.length_replicate] at e2''
       exact e2''
      rw[List.getElem?_map,ci] at e2'
      have e3':(σ[i0]?).join=some v:=Option.some.inj e2'
      have e4:σ[i0]? =some (some v):=by
       cases q:σ[i0]? with
       |none=>rw[q] at e3';cases e3'
       |some o=>rw[q] at e3';exact congrArg some e3'
      obtain⟨m,hn,hl⟩:=I2.loc
      have vis:Vis X.env.scope y:= .inr (S.capo y ymem)
      obtain⟨u,r,lk⟩:=hl i0 y v ni e4 vis
      refine⟨u,r, .inr ⟨cy (env:=X.env) (S.capf y ymem), ?_⟩⟩
      rcases lk with⟨kl,_⟩|⟨_,c,ec,hcell⟩
      · rcases S.capo y ymem with z|z
        · have kl':X.env.scope.names.lookup y=some .local:=kl
          rw[z] at kl';cases kl'
        · have kl':X.env.scope.names.lookup y=some .local:=kl
          rw[z] at kl';cases kl'
      · have fm:(y,NameKind.free)∈scope.names:=ik (env:=X.env) S.cell (cy (env:=X.env) (S.capf y ymem))
        obtain⟨c',ec'⟩:=hc2 y fm
        have:=hc1 y c' ec'
        rw[ec] at this
        cases this
        obtain⟨o,ho,hd⟩:=hcell
        exact⟨c,ec',o,old _ _ ho,hd⟩
  · obtain⟨v,o,ho,hd⟩:=I2.cell y c (hc1 y c e)
    exact⟨v,o,old _ _ ho,hd⟩
  · show (upd H2 s2.heap.objs.size (.lst [])) P2.objs.size=none
    rw[aJ (Ne.symm hDC)]
    exact I2.hok.fresh hCle
  · obtain⟨v,o,ho,hd⟩:=I2.cell y c (hc1 y c e)
    rw[aJ (Nat.ne_of_lt (Heap.lt_size ho))]
    exact I2.freeC y c (hc1 y c e)
  · show (kJ kx cap σ).length=(xs++cn).length
    have:=congrArg List.length S.cap
    simp only[List.length_map] at this
    simp[kJ,this,hkx]
 have stat:∀{H':Hp},(∀b∈fp,H' b=none)→∀b∈fp,j5 (bJ X scope (xs++cn) cl P2.objs.size s2 H2 fp) [] H' b:=fun hn b hb=>
  ⟨hn b hb,neC b (hlt b hb),ok'.exfs b hb, .inl hb,fun y c e=>(ok'.exf b hb).2 y c e,fun p hp=>(nomatch hp)⟩
 have loop:∀s₃:Shared,s₃={s2 with heap:=h₁,toks:=s2.toks+([]:List (Str×Value)).length}→
  codeAny (model X.prog X.w) X.A (.compLoop (.ListComp elt [⟨tg,iter,ifs,0⟩] scope pos) 0 (.ref it) (.ref s2.heap.objs.size) (compEnvC scope cl P2.objs.size X.env))
   (compPost (model X.prog X.w) X.A X.xe use Q' (.ref s2.heap.objs.size) P2.objs.size) s₃:=by
  rintro s₃ rfl
  refine codeAny_loop rfl (fun n s'=>∃i H',Inv (bJ X scope (xs++cn) cl P2.objs.size s2 H2 fp) [] (kJ kx cap σ) H' s'∧tn i s'.heap∧(∀b∈fp,H' b=none)∧W i n H') ?_ m0
   ⟨0,_,I4 _,T.keep _ _ _ st2 fun b hb o e=>old b o e,fun b hb=>by rw[aJ (Nat.ne_of_lt (hlt b hb))];exact(f2 b hb).1,w0⟩
  rintro n s3 ⟨i,H3,I3,st3,fr3,w3⟩
  show wpAny _ X.A ((compTurn (.ListComp elt [⟨tg,iter,ifs,0⟩] scope pos) 0 (.ref it) (.ref s2.heap.objs.size) (compEnvC scope cl P2.objs.size X.env)).onRaise (fun x=>do noteFrame x (compEnvC scope cl P2.objs.size X.env);theTreesLotGoes x)) _ _ s3
  refine wpAny_noted ?_
  rw[compTurn_list]
  refine wpAny_bind (wpAny_standAt (wpAny_bind ?_))
  rcases turn i n H3 w3 with⟨stop,qn⟩|⟨go,step⟩
  · refine wpAny_mono (T.done (bJ X scope (xs++cn) cl P2.objs.size s2 H2 fp) rfl rfl rfl hc i [] s3 _ H3 (fun _ _=>False) I3 (stat fr3) st3 stop) (fun r s4 ⟨hr,I5⟩=> ?_) fun _ _ z=>z.elim
    subst hr
    refine wpAny_pure ?_
    obtain⟨m,hn,_⟩:=id I5.loc
    have J:Inv X pins σ H3 s4:=by
     have kp:∀b o,b≠P2.objs.size→s4.heap.get? b=some o→s4.heap.get? b=some o:=fun b o hb e=>e
     have b0:=I5.base
     have sm:∀b o,s2.heap.get? b=some o→b≠P2.objs.size:=fun b o e=>neC b (Heap.lt_size e)
     refine I2.call' (s':=s4) (ch:=fp) I5.os ⟨fun b o e n hb hx=>kp _ _ (sm b o e) (b0.keep b o e n hb hx),fun b o e n hb hx=> ?_,b0.free,fun b o e hx=> ?_,b0.tups,b0.frzs,b0.tbls⟩ (fun b u e=> ?_) I5.bare
      fun b hb=>⟨(f2 b hb).2.2.2.1,(f2 b hb).2.1,(f2 b hb).2.2.2.2.1,(f2 b hb).2.2.2.2.2⟩
     · obtain⟨sl,q⟩:=b0.slot b o e n hb hx
       exact⟨sl,kp _ _ (sm b o e) q⟩
     · obtain⟨o',q⟩:=b0.there b o e hx
       exact⟨o',kp _ _ (sm b o e) q⟩
     · have hfree:H3 P2.objs.size=none:=I5.free
       refine(I5.hok b u e).stay (fun c v hc' q=>kp c v ?_ q) (fun _ q=>q) fun _ _ q=>q
       rcases hc' with z|z
       · rw[z];exact aG e hfree
       · exact aG z hfree
    have fC:j5 X pins H3 P2.objs.size:=by
     have q:=I2.fpOk hCle (I2.hok.fresh hCle)
     exact⟨I5.free,q.2⟩
    exact fin _ _ _ _ m J fC hn qn _
  · refine wpAny_mono (T.item (bJ X scope (xs++cn) cl P2.objs.size s2 H2 fp) rfl rfl rfl hc i [] s3 _ H3 (fun _ _=>False) I3 (stat fr3) st3 go) (fun r s4 ⟨u,hr,h4⟩=> ?_) fun _ _ z=>z.elim
    subst hr
    refine wpAny_bind (wpAny_mono h4 (fun _ s5 ⟨xv,H5,I5,r5,y5,st5,fr5⟩=> ?_) fun _ _ z=>z.elim)
    have I5':=I5.pinned (stat fr5) (T.obj _ _ st5)
    refine wpAny_bind (wpAny_mono (hg cl P2.objs.size s2 H2 fp _ s5 _ H5 xv u _ I5' r5 (step xv _ y5)) (fun _ s6 ⟨σ6,H6,I6,ks,q6⟩=> ?_) fun _ _ z=>z.elim)
    have again:∀{s7:Shared} {H7:Hp},Inv (bJ X scope (xs++cn) cl P2.objs.size s2 H2 fp) ([]++lA fp s5.heap) σ6 H7 s7→(∃m',m'<n∧W (i+1) m' H7)→
     ∃m,m<n∧∃i H',Inv (bJ X scope (xs++cn) cl P2.objs.size s2 H2 fp) [] (kJ kx cap σ) H' s7∧tn i s7.heap∧(∀b∈fp,H' b=none)∧W i m H':=fun {s7 H7} I7 w7=>by
     obtain⟨m',hm,w7⟩:=w7
     refine⟨m',hm,i+1,H7,I7.unpinned.weak ks.1 ks.2,T.keep _ _ _ st5 fun b hb o e=>(I7.pin (b,o) (List.mem_append_right _ (List.mem_append_right _ (fX hb e)))).1,fun b hb=> ?_,w7⟩
     · obtain⟨o,e,d⟩:=T.obj _ _ st5 b hb
       exact(I7.pin (b,o) (List.mem_append_right _ (List.mem_append_right _ (fX hb e)))).2.1
    refine wpAny_bind (wpAny_mono (hin cl P2.objs.size s2 H2 fp _ s6 _ _ _ I6 q6) (fun ok s7 ⟨H7,I7,q7⟩=> ?_) fun _ _ z=>z.elim)
    cases ok with
    |false=>
     have q7':∃m',m'<n∧W (i+1) m' H7:=by simpa using q7
     exact wpAny_pure ⟨rfl,again I7 q7'⟩
    |true=>
     have q7':=(if_pos rfl).mp q7
     refine wpAny_bind (wpAny_bind (wpAny_mono (he cl P2.objs.size s2 H2 fp _ s7 _ H7 _ I7 q7') (fun yv s8 ⟨y,H8,I8,r8,ys,h8,z8,q8⟩=> ?_) fun _ _ z=>z.elim))
     refine wpAny_bind (wpAny_mono (cR (X:=bJ X scope (xs++cn) cl P2.objs.size s2 H2 fp) _ s8 _ H8 (.ref s2.heap.objs.size) [y] (.ref s2.heap.objs.size) [yv] (fun _ H9=>∃m',m'<n∧W (i+1) m' H9) I8 rfl (.cons r8 .nil) ⟨_,ys,y,rfl,rfl,h8,z8,q8⟩) (fun _ s9 ⟨_,H9,I9,_,q9⟩=> ?_) fun _ _ z=>z.elim)
     exact wpAny_pure (wpAny_pure ⟨rfl,again I9 q9⟩)
 exact codeAny_compStart_list (loop _ rfl) (T.self _ 0 _ _ _ (T.keep _ _ _ st2 fun b hb o e=>old b o e) (loop _ rfl))
end
section
variable{X:Cx}{pins:List (Addr×Obj)}{σ:St}{H:Hp}{s:Shared}
end
structure PKd(K:W.Frag)(ns:List Str)(C:Addr)(ms fs:List Str):Prop where
 cls:Cls K C
 ca:W.findIn K (.ref C) "__class__"=some (some (.builtin "object.__class__"))
 cg:W.specialIn K (.builtin "object.__class__") "__get__"=some (some (.builtin "getset_descriptor.__get__"))
 ct:W.takesIn K (.builtin "object.__class__")=some true
 top:W.mroIn K C (.type "object")=some true
 sub:∀T:String,(Value.type T== .type "object")=false→W.subIn K (.ref C) (.type T)=some false
 kit:∀n∈ns,W.kitOne K (.ref C) (.ref (clA K n))=some (ms.contains n)
 na:∀f∈fs,NoAttr K C f
section
variable{K:W.Frag}{C:Addr}{cd:ClassData}{ns ms fs:List Str}
theorem PKd.ty{H:Hp}{a dx:Addr}{gs:List (Str×V)}(p:PKd K ns C ms fs)(e:H a=some (.ins C dx gs)):TyOf K H (.ref a) (.ref C):= .ins e p.cls p.ca p.cg p.ct p.top
theorem PKd.notT(p:PKd K ns C ms fs)(T:String)(h:(Value.type T== .type "object")=false:=by decide)(hm:W.kitMeta T=true:=by decide+kernel):W.kitOne K (.ref C) (.type T)=some false:=by
 unfold W.kitOne W.kitCls
 rw[if_neg (by intro q;cases beq_iff_eq.mp q)]
 dsimp only
 rw[if_pos hm]
 exact p.sub T h
theorem BS{x:Str}{dd:Option Addr}{sl:Array (Option Value)}{Cs:List Addr}(hn:W.nsIn K mainGlobals x=some (some (.ref C)))(l:K.lookup C=some ⟨.type "type",dd, .cls cd,sl⟩)(hm:cd.mro=[.ref C, .type "object"])(p:Pts K ns Cs)(e:(Cs.map fun D=>cd.mro.contains (.ref D))=ns.map ms.contains)
 (pg:W.plainGet K C Str.empty=true)(hd:W.hasDictIn K C=true)(po:W.plainOver K C=true)(sa:W.findIn K (.ref C) "__setattr__"=some (some (.builtin "object.__setattr__")))
 (ca:W.findIn K (.ref C) "__class__"=some (some (.builtin "object.__class__")))(cg:W.specialIn K (.builtin "object.__class__") "__get__"=some (some (.builtin "getset_descriptor.__get__")))(ct:W.takesIn K (.builtin "object.__class__")=some true)
 (na:∀f∈fs,NoAttr K C f):PKd K ns (clA K x) ms fs:=by
 rw[cN hn]
 have hc:W.clsIn K C=some cd:=by
  unfold W.clsIn
  rw[l]
 have ht:W.typeIn K (.ref C)=some (.type "type"):=by
  show (K.lookup C).map (·.cls)=_
  rw[l]
  rfl
 have o:KObj K C cd:=⟨hc,ht,_,hm⟩
 refine⟨⟨pg,hd,po,sa⟩,ca,cg,ct, ?_,fun T hT=> ?_,uf o p e,na⟩
 · have:=o.sub (.type "object")
   rw[hm] at this
   exact this.trans (by rw[List.contains_cons,List.contains_cons,beq_self_eq_true,Bool.true_or,Bool.or_true])
 · rw[o.sub,hm,List.contains_cons,List.contains_cons,hT,Bool.false_or,List.contains_nil,Bool.or_false]
   rfl
theorem zt{dd:Option Addr}{sl:Array (Option Value)}(l:K.lookup C=some ⟨.type "type",dd, .cls cd,sl⟩)(hm:cd.mro=[.ref C, .type "object"]):KObj K C cd:=⟨by unfold W.clsIn;rw[l],by show (K.lookup C).map (·.cls)=_;rw[l];rfl,_,hm⟩
theorem DC{x:Str}{f:Addr}(hn:W.nsIn K mainGlobals x=some (some (.ref C)))(mi:W.makesIn K C=true)(hi:W.findIn K (.ref C) "__init__"=some (some (.ref f)))(hf:W.isFn K (.ref f)=true)(kp:W.keepIn K (.ref C)=true):Mk K (clA K x) f:=by
 rw[cN hn]
 exact⟨mi,hi,hf,kp⟩
end
structure GotP(P:Program)(w:World)(K:W.Frag)(mg:Str→Option Value)(base:Heap)(k:Nat)(x:Str)(ps:List Str)(sp:Sp):Prop where
 ex:∃f fd,Mk K (clA K x) f∧FnOk P w K mg base CX0 k f fd ps sp∧Binds K fd ps []∧mg x=some (.ref (clA K x))
section
variable{X:Cx}{k n:Nat}{x:Str}{ps:List Str}{sp:Sp}{p pos:Pos}{e:Expr}{es:List Expr}{t:TA}
theorem wO(g:GotP X.prog X.w X.K X.mg X.base k x ps sp)(hr:Room n X.A)(hk:k+1≤n)(hg:Gl X x)(ha:PA X (e::es) t)(hdb:(x==("__debug__":Str))=false:=by decide)
 (he:starEach (e::es) X.env=(false,eval e X.env)::starEach es X.env:=by rfl)(hpl:(backTo pos (starEach es X.env)).any (·.1)=false:=by rfl):
 PE X (.Call (.Name x p) (e::es) [] pos) (v4 (clA X.K x) sp [] E0 t):=by
 obtain⟨f,fd,M,F,hb,hm⟩:=g.ex
 exact y1 M F (hr.mono hk) hg hm hb .nil wj ha hdb he hpl
end
structure CompCT(fsc:Scope)(N:List Str)(scope:Scope)(xs:List Str)(cn:List Str)(cap:List Nat):Prop where
 kind:scope.kind= .function
 names:∀y∈scope.names,y.2= .local→scope.names.lookup y.1=some .local
 cell:∀y∈scope.names,y.2≠ .cell
 own:∀y∈xs,scope.names.lookup y=some .local
 free:∀y∈scope.names,y.2= .free→fsc.names.lookup y.1=some .cell∨fsc.names.lookup y.1=some .free
 cap:cap.map (fun i=>N[i]?)=cn.map some
 capf:∀y∈cn,scope.names.lookup y=some .free
 capo:∀y∈cn,fsc.names.lookup y=some .cell∨fsc.names.lookup y=some .free
 nd:(xs++cn).Nodup
theorem CompCT.to{X:Cx}{fsc:Scope}{N:List Str}{scope:Scope}{xs cn:List Str}{cap:List Nat}(c:CompCT fsc N scope xs cn cap)(e1:X.env.scope=fsc)(e2:X.N=N):CompScopeT X scope xs cn cap:=by
 subst e1 e2
 exact⟨c.kind,c.names,c.cell,c.own,c.free,c.cap,c.capf,c.capo,c.nd⟩
theorem ug{X:Cx}{scope:Scope}{xs cn:List Str}{cap:List Nat}{cl:List (Str×Addr)}{C:Addr}{s₀:Shared}{H₀:Hp}{ex:List Addr}{y:Str}{pos:Pos}(S:CompScopeT X scope xs cn cap)(i:Nat)(hi:(xs++cn)[i]? =some y)(hm:y∈xs):
 PG (bJ X scope (xs++cn) cl C s₀ H₀ ex) (.Name y pos) (iD i):=dC (i:=i) S.nd hi (.inl (lookup_relabel_local (env:=X.env) (S.own y hm))) (.inr (lookup_relabel_local (env:=X.env) (S.own y hm)))
section
variable{X:Cx}{K:W.Frag}{e:Expr}{f:Str}{pos:Pos}{ta:TE}
theorem uh(h:X.K=K)(he:PE X e ta)(hb:attributeBase e f X.env (eval e X.env)=eval e X.env):PE X (.Attribute e f pos) (Bo K ta f):=by
 subst h;exact Bp he hb
theorem zu{es:List Expr}{k:Nat}{t:TGs}{n:Nat}(h:X.K=K)(hc:X.calm=true)(hs:PGs X es t)
 (hn:(assignEach es X.env).length=n:=by rfl)(hst:(assignEach es X.env).findIdx? (·.1)=none:=by rfl):PG X (.Tuple es k pos) (yX K n t):=by
 subst h;exact pP hc hs hn hst
end
section
variable{X:Cx}
def DD(K:W.Frag):List V→Hp→VK→Prop:=fun xs H Q=>∃l ns,xs=[.ref l]∧SqL K H l (List.map V.int ns)∧Q (.int ns.sum) H
theorem iN(hc:X.calm=true):CallR X (.builtin "sum") (DD X.K):=by
 intro pins s σ H xs us Q I r h
 obtain⟨l,ns,rfl,hS,q⟩:=h
 obtain⟨u,rfl,ru⟩:=r.one
 cases ru
 obtain⟨its,rv,pl,hz⟩:=I.list hS
 have hi:=sG rv
 obtain⟨ys,hx⟩:=hi.allInts.items
 have hl':s.heap.IsList l (intItems ys):=hx▸pl.isList
 refine sum_intListG (I.ok.hd hc) hl' fun h' tk t' hk=> ?_
 have e1:ns=ys.toList.map (·.1):=by
  rw[←nums_intItems,←hx]
  exact(show numsOf its.toArray.toList=ns from hi.numsOf).symm
 have e2:preSum (numAt ys) ys.size=ns.sum:=by
  rw[preSum_eq,List.take_of_length_le (by simp),e1]
 rw[e2]
 exact⟨.int _,H,I.kept hk,⟨_,rfl⟩,q⟩
end
theorem wR:bootBuiltins "sum"=some (.builtin "sum"):=by decide+kernel
theorem AJ:bootBuiltins "min"=some (.builtin "min"):=by decide+kernel
end L2
namespace L2
open PySem PySem.Spec PyProof.Rows
section
variable{prog:Program}{w:World}{A:Around}{E:Value→Shared→Prop}{s:Shared}
theorem wS(t:Addr):¬((Value.ref t==Value.none)=true):=fun z=>Bool.false_ne_true z
theorem ku{j t:Addr}{i:Nat}{vs:Array Value}{x:Value}{Q:Value→Shared→Prop}(u:s.heap.IsTupleIter j t i)(v:s.heap.IsTuple t vs)(ex:vs[i]? =some x)
 (k:∀h',h'.IsTupleIter j t (i+1)→Heap.SameBut j s.heap h'→Q x {s with heap:=h'}):wpAny (model prog w) A (Builtin.SmallTypes.nextOf (.ref j)) Q E s:=by
 obtain⟨oj,ej,cj,dj⟩:=id u
 obtain⟨ot,et,_,nt,dt⟩:=v
 delta Builtin.SmallTypes.nextOf
 refine wpAny_bind (wpAny_callSpecial?_slot (name:="__next__") u.typeIs F.slot_tuple_iterator_next (wpAny_call_entry F.slot_tuple_iterator_next u.typeIs F.entry_tuple_iterator_next ?_ (F.args_tuple_iterator_next_1 _)))
 show wpAny (model prog w) A.in1 (field (.ref j) 0>>=_) _ _ s
 refine wpAny_bind (wpAny_field (x:= .ref t) ej dj rfl ?_)
 show wpAny (model prog w) A.in1 (if(Value.ref t==Value.none)=true then _ else _) _ _ s
 rw[if_neg (wS t)]
 show wpAny (model prog w) A.in1 (field (.ref j) 1>>=_) _ _ s
 refine wpAny_bind (wpAny_field (x:= .int i 0) ej dj rfl ?_)
 show wpAny (model prog w) A.in1 (seqItems? (.ref t)>>=_) _ _ s
 refine wpAny_bind (wpAny_seqItems et dt ?_)
 simp only[ex,Int.toNat_natCast]
 refine wpAny_bind (wpAny_setField ej dj (by simp) (wpAny_pure ⟨x,rfl,wpAny_pure (k _ ⟨_,Heap.get?_update_self _ ej (Obj.isFreed_of_fields (Obj.data_mapFields dj _)),(Obj.cls_mapFields ..).trans cj, ?_⟩ (Heap.SameBut.update ..))⟩))
 rw[Obj.data_mapFields dj]
 simp[rawInt]
theorem vq{j t:Addr}{i:Nat}{vs:Array Value}{Q:Value→Shared→Prop}(hA:A.handled=none)(u:s.heap.IsTupleIter j t i)(v:s.heap.IsTuple t vs)(ex:vs[i]? =none)
 (k:∀h' e,Heap.ExtBut j s.heap h'→(∃o,h'.get? e=some o∧o.cls= .type "StopIteration")→E (.ref e) {s with heap:=h'}):wpAny (model prog w) A (Builtin.SmallTypes.nextOf (.ref j)) Q E s:=by
 obtain⟨oj,ej,cj,dj⟩:=id u
 obtain⟨ot,et,_,nt,dt⟩:=v
 delta Builtin.SmallTypes.nextOf
 refine wpAny_bind (wpAny_callSpecial?_slot (name:="__next__") u.typeIs F.slot_tuple_iterator_next (wpAny_call_entry F.slot_tuple_iterator_next u.typeIs F.entry_tuple_iterator_next ?_ (F.args_tuple_iterator_next_1 _)))
 show wpAny (model prog w) A.in1 (field (.ref j) 0>>=_) _ _ s
 refine wpAny_bind (wpAny_field (x:= .ref t) ej dj rfl ?_)
 show wpAny (model prog w) A.in1 (if(Value.ref t==Value.none)=true then _ else _) _ _ s
 rw[if_neg (wS t)]
 show wpAny (model prog w) A.in1 (field (.ref j) 1>>=_) _ _ s
 refine wpAny_bind (wpAny_field (x:= .int i 0) ej dj rfl ?_)
 show wpAny (model prog w) A.in1 (seqItems? (.ref t)>>=_) _ _ s
 refine wpAny_bind (wpAny_seqItems et dt ?_)
 simp only[ex,Int.toNat_natCast]
 refine wpAny_bind (wpAny_rule (wpAny_bind (wpAny_setField ej dj (by simp) ?_)))
 refine wpAny_bind ?_
 simp only[newTuple,newExc]
 refine wpAny_bind (wpAny_newObj_type ?_ (by size_fits))
 refine wpAny_bind (wpAny_of_eq (a:=Value.none) (by first|rfl|(simp only[firstArgMember];rfl)) (wpAny_newObj_type ?_ (by size_fits)))
 simp only[raiseNew]
 refine wpAny_bind (wpAny_handled ?_)
 rw[show A.in1.handled=none from hA]
 exact wpAny_bind (wpAny_pure (wpAny_throw (k _ _ (((Heap.SameBut.update ..).extBut.push _).push _) ⟨_,Heap.get?_push_size _ rfl,rfl⟩)))
structure ZP(h:Heap)(z ti to_ j1 j2 t1 t2:Addr)(i:Nat)(f0 a b:Value)(vs us:Array Value):Prop where
 z:IsZip h z ti to_ f0
 ti:IsPair h ti (.ref j1) (.ref j2)
 to_:IsPair h to_ a b
 j1:h.IsTupleIter j1 t1 i
 j2:h.IsTupleIter j2 t2 i
 t1:h.IsTuple t1 vs
 t2:h.IsTuple t2 us
theorem vt{z ti to_ j1 j2 t1 t2:Addr}{i:Nat}{vs us:Array Value}{x y a b:Value}{Q:Value→Shared→Prop}(D:ZipApart z ti to_ j1 j2 t1 t2)(Z:ZP s.heap z ti to_ j1 j2 t1 t2 i .none a b vs us)(ex:vs[i]? =some x)(ey:us[i]? =some y)
 (k:∀h',IsZip h' z ti to_ (rawInt s.heap.objs.size)→IsPair h' to_ x y→h'.IsTupleIter j1 t1 (i+1)→h'.IsTupleIter j2 t2 (i+1)→IsPair h' s.heap.objs.size x y→
  (∀c o,c≠z→c≠to_→c≠j1→c≠j2→s.heap.get? c=some o→h'.get? c=some o)→Q (.ref s.heap.objs.size) {s with heap:=h'}):
 wpAny (model prog w) A (Builtin.«zip.__next__» ⟨[.ref z],[]⟩) (fun fin s'=>∃v,fin= .done (.ret v)∧Q v s') E s:=by
 show wpAny (model prog w) A (field (.ref z) 2>>=_) _ _ _
 refine wpAny_bind (wpAny_field (x:= .bool false) Z.z rfl rfl ?_)
 show wpAny (model prog w) A (field (.ref z) 3>>=_) _ _ _
 refine wpAny_bind (wpAny_field (x:= .ref ti) Z.z rfl rfl (wpAny_bind (wpAny_seqItems Z.ti rfl ?_)))
 show wpAny (model prog w) A (Builtin.SmallTypes.ownedTupleIsFree (.ref z)>>=_) _ _ _
 refine wpAny_bind ?_
 delta Builtin.SmallTypes.ownedTupleIsFree
 refine wpAny_bind (wpAny_field (x:= .none) Z.z rfl rfl (wpAny_pure ?_))
 simp only[if_true]
 refine wpAny_bind (wpAny_rule (wpAny_bind (wpAny_field (x:= .ref to_) Z.z rfl rfl ?_)))
 refine wpAny_bind (wpAny_setField_rec Z.z (by simp) fun g1 z1 m1=> ?_)
 replace z1:IsZip g1 z ti to_ .ellipsis:=z1
 refine wpAny_bind ?_
 simp only[List.forIn_cons,List.forIn_nil,List.zipIdx_cons,List.zipIdx_nil]
 refine wpAny_bind (wpAny_bind (wpAny_onRaise ?_))
 show wpAny (model prog w) A (Builtin.SmallTypes.nextOf (.ref j1)>>=_) _ _ _
 refine wpAny_bind (ku (Z.j1.extBut m1.extBut D.i1z) (Z.t1.extBut m1.extBut D.l1z) ex fun g2 k2 m2=>wpAny_pure ?_)
 have o2:IsPair g2 to_ a b:=m2.extBut _ _ D.TOi1 (m1.extBut _ _ D.TOz Z.to_)
 refine wpAny_bind (wpAny_seqItems o2 rfl (wpAny_bind (wpAny_updateSeq_pair o2 fun g3 o3 m3=> ?_)))
 replace o3:IsPair g3 to_ x b:=o3
 refine wpAny_bind (wpAny_letGo (wpAny_pure (wpAny_bind (wpAny_bind (wpAny_onRaise ?_)))))
 show wpAny (model prog w) A (Builtin.SmallTypes.nextOf (.ref j2)>>=_) _ _ _
 refine wpAny_bind (ku (((Z.j2.extBut m1.extBut D.i2z).extBut m2.extBut D.i12.symm).extBut m3.extBut D.TOi2.symm) (((Z.t2.extBut m1.extBut D.l2z).extBut m2.extBut D.l2i1).extBut m3.extBut D.l2TO) ey fun g4 k4 m4=>wpAny_pure ?_)
 have o4:IsPair g4 to_ x b:=m4.extBut _ _ D.TOi2 o3
 refine wpAny_bind (wpAny_seqItems o4 rfl (wpAny_bind (wpAny_updateSeq_pair o4 fun g5 o5 m5=> ?_)))
 replace o5:IsPair g5 to_ x y:=o5
 refine wpAny_bind (wpAny_letGo (wpAny_pure (wpAny_pure (wpAny_bind (wpAny_seqItems o5 rfl (wpAny_bind (wpAny_newTuple ?_)))))))
 have sz:g5.objs.size=s.heap.objs.size:=by rw[m5.1,m4.1,m3.1,m2.1,m1.1]
 have z5:IsZip g5 z ti to_ .ellipsis:=m5.extBut _ _ D.TOz.symm (m4.extBut _ _ D.i2z.symm (m3.extBut _ _ D.TOz.symm (m2.extBut _ _ D.i1z.symm z1)))
 have kk:∀c o,c≠z→c≠to_→c≠j1→c≠j2→s.heap.get? c=some o→g5.get? c=some o:=fun c o c1 c2 c3 c4 e=>m5.extBut _ _ c2 (m4.extBut _ _ c4 (m3.extBut _ _ c2 (m2.extBut _ _ c3 (m1.extBut _ _ c1 e))))
 have a5:g5.IsTupleIter j1 t1 (i+1):=((k2.extBut m3.extBut D.TOi1.symm).extBut m4.extBut D.i12).extBut m5.extBut D.TOi1.symm
 have b5:g5.IsTupleIter j2 t2 (i+1):=k4.extBut m5.extBut D.TOi2.symm
 have lz:z<g5.objs.size:=Heap.lt_size z5
 show wpAny (model prog w) A (Builtin.SmallTypes.ownedTupleHandOut (.ref z) (.ref g5.objs.size)>>=_) _ _ _
 refine wpAny_bind ?_
 delta Builtin.SmallTypes.ownedTupleHandOut
 have z6:IsZip (g5.push {cls:= .type "tuple",data:= .seq #[x,y]}) z ti to_ .ellipsis:=Heap.get?_push_of_some _ z5
 refine wpAny_bind (wpAny_setField_rec z6 (by simp) fun g7 z7 m7=> ?_)
 replace z7:IsZip g7 z ti to_ (rawInt g5.objs.size):=z7
 refine wpAny_setField_rec z7 (by simp) fun g8 z8 m8=> ?_
 replace z8:IsZip g8 z ti to_ (rawInt g5.objs.size):=z8
 have up:∀c o,c≠z→g5.get? c=some o→g8.get? c=some o:=fun c o c1 e=>m8.extBut _ _ c1 (m7.extBut _ _ c1 (Heap.get?_push_of_some _ e))
 have n8:IsPair g8 g5.objs.size x y:=m8.extBut _ _ (Nat.ne_of_gt lz) (m7.extBut _ _ (Nat.ne_of_gt lz) (Heap.get?_push_size _ rfl))
 rw[sz] at z8 n8
 refine wpAny_pure ⟨_,rfl, ?_⟩
 show Q (.ref g5.objs.size) _
 rw[sz]
 obtain⟨p1,e1,r1⟩:=a5
 obtain⟨p2,e2,r2⟩:=b5
 exact k g8 z8 (up _ _ D.TOz o5) ⟨p1,up _ _ D.i1z e1,r1⟩ ⟨p2,up _ _ D.i2z e2,r2⟩ n8 fun c o c1 c2 c3 c4 e=>up c o c1 (kk c o c1 c2 c3 c4 e)
theorem wT{z ti to_ j1 j2 t1 t2:Addr}{i:Nat}{vs us:Array Value}{a b:Value}{Q:Fin→Shared→Prop}(hA:A.handled=none)(D:ZipApart z ti to_ j1 j2 t1 t2)(Z:ZP s.heap z ti to_ j1 j2 t1 t2 i .none a b vs us)(en:vs[i]? =none)
 (k:∀h' e,(∀c o,c≠z→c≠to_→c≠j1→c≠j2→s.heap.get? c=some o→h'.get? c=some o)→(∃o,h'.get? e=some o∧o.cls= .type "StopIteration")→E (.ref e) {s with heap:=h'}):
 wpAny (model prog w) A (Builtin.«zip.__next__» ⟨[.ref z],[]⟩) Q E s:=by
 show wpAny (model prog w) A (field (.ref z) 2>>=_) _ _ _
 refine wpAny_bind (wpAny_field (x:= .bool false) Z.z rfl rfl ?_)
 show wpAny (model prog w) A (field (.ref z) 3>>=_) _ _ _
 refine wpAny_bind (wpAny_field (x:= .ref ti) Z.z rfl rfl (wpAny_bind (wpAny_seqItems Z.ti rfl ?_)))
 show wpAny (model prog w) A (Builtin.SmallTypes.ownedTupleIsFree (.ref z)>>=_) _ _ _
 refine wpAny_bind ?_
 delta Builtin.SmallTypes.ownedTupleIsFree
 refine wpAny_bind (wpAny_field (x:= .none) Z.z rfl rfl (wpAny_pure ?_))
 simp only[if_true]
 refine wpAny_bind (wpAny_rule (wpAny_bind (wpAny_field (x:= .ref to_) Z.z rfl rfl ?_)))
 refine wpAny_bind (wpAny_setField_rec Z.z (by simp) fun g1 z1 m1=> ?_)
 replace z1:IsZip g1 z ti to_ .ellipsis:=z1
 refine wpAny_bind ?_
 simp only[List.forIn_cons,List.forIn_nil,List.zipIdx_cons,List.zipIdx_nil]
 refine wpAny_bind (wpAny_bind (wpAny_onRaise ?_))
 show wpAny (model prog w) A (Builtin.SmallTypes.nextOf (.ref j1)>>=_) _ _ _
 refine wpAny_bind (vq hA (Z.j1.extBut m1.extBut D.i1z) (Z.t1.extBut m1.extBut D.l1z) en fun g2 e m2 he=> ?_)
 obtain⟨oe,ee,ce⟩:=he
 have z2:IsZip g2 z ti to_ .ellipsis:=m2 _ _ D.i1z.symm z1
 have ne:e≠z:=fun q=>by subst q;rw[z2] at ee;cases ee;simp at ce
 exact wpAny_setField_rec z2 (by simp) fun g3 _ m3=>k g3 e (fun c o c1 _ c3 _ q=>m3.extBut _ _ c1 (m2 _ _ c3 (m1.extBut _ _ c1 q))) ⟨oe,m3.extBut _ _ ne ee,ce⟩
theorem vv{z ti to_ j1 j2 t1 t2:Addr}{i:Nat}{vs us:Array Value}{x y a b:Value}{Q:Option Value→Shared→Prop}(D:ZipApart z ti to_ j1 j2 t1 t2)(Z:ZP s.heap z ti to_ j1 j2 t1 t2 i .none a b vs us)(ex:vs[i]? =some x)(ey:us[i]? =some y)
 (k:∀h',IsZip h' z ti to_ (rawInt s.heap.objs.size)→IsPair h' to_ x y→h'.IsTupleIter j1 t1 (i+1)→h'.IsTupleIter j2 t2 (i+1)→IsPair h' s.heap.objs.size x y→
  (∀c o,c≠z→c≠to_→c≠j1→c≠j2→s.heap.get? c=some o→h'.get? c=some o)→Q (some (.ref s.heap.objs.size)) {s with heap:=h'}):
 wpAny (model prog w) A (pyNext (.ref z)) Q E s:=by
 have ty:s.TypeIs (.ref z) "zip":=⟨_,Z.z,rfl⟩
 delta pyNext
 exact wpAny_bind (wpAny_attempt (wpAny_callSpecial?_slot (name:="__next__") ty F.slot_zip_next (wpAny_call_entry F.slot_zip_next ty F.entry_zip_next (vt D Z ex ey fun h' a1 a2 a3 a4 a5 a6=>wpAny_pure (k h' a1 a2 a3 a4 a5 a6)) (F.args_zip_next_1 _))))
theorem vw{z ti to_ j1 j2 t1 t2:Addr}{i:Nat}{vs us:Array Value}{a b:Value}{Q:Option Value→Shared→Prop}(hA:A.handled=none)(D:ZipApart z ti to_ j1 j2 t1 t2)(Z:ZP s.heap z ti to_ j1 j2 t1 t2 i .none a b vs us)(en:vs[i]? =none)
 (k:∀h',(∀c o,c≠z→c≠to_→c≠j1→c≠j2→s.heap.get? c=some o→h'.get? c=some o)→Q none {s with heap:=h'}):wpAny (model prog w) A (pyNext (.ref z)) Q E s:=by
 have ty:s.TypeIs (.ref z) "zip":=⟨_,Z.z,rfl⟩
 delta pyNext
 refine wpAny_bind (wpAny_attempt (wpAny_callSpecial?_slot (name:="__next__") ty F.slot_zip_next (wpAny_call_entry F.slot_zip_next ty F.entry_zip_next (wT hA D Z en fun h' e kk he=> ?_) (F.args_zip_next_1 _))))
 obtain⟨oe,ee,ce⟩:=he
 exact wpAny_bind (wpAny_isInstance (T:="StopIteration") (b:=true) ⟨oe,ee,ce⟩ isSubtype_stop (wpAny_pure (k _ kk)))
end
abbrev tz1(h:Heap)(t1:Addr):Heap:=h.push {cls:= .type "tuple_iterator",data:= .fields #[.ref t1, .int 0 0]}
abbrev tz2(h:Heap)(t1 t2:Addr):Heap:=(tz1 h t1).push {cls:= .type "tuple_iterator",data:= .fields #[.ref t2, .int 0 0]}
abbrev tz3(h:Heap)(t1 t2:Addr):Heap:=(tz2 h t1 t2).push {cls:= .type "tuple",data:= .seq #[.ref h.objs.size, .ref (tz1 h t1).objs.size]}
abbrev tz4(h:Heap)(t1 t2:Addr):Heap:=(tz3 h t1 t2).push {cls:= .type "tuple",data:= .seq #[.none, .none]}
abbrev tz5(h:Heap)(t1 t2:Addr):Heap:=(tz4 h t1 t2).push {cls:= .type "zip",data:= .fields #[.none, .bool false, .bool false, .ref (tz2 h t1 t2).objs.size, .ref (tz3 h t1 t2).objs.size]}
theorem BT(t1 t2:Addr)(vs us:Array Value):Meets (Builtin.«zip.__new__» ⟨[.type "zip", .ref t1, .ref t2],[]⟩) (fun _ R s=>s.heap.IsTuple t1 vs∧s.heap.IsTuple t2 us∧R (.ok (.ret (.ref (tz4 s.heap t1 t2).objs.size))) {s with heap:=tz5 s.heap t1 t2}):=
 .of_wp fun prog w A R s h=>by
  obtain⟨hp,g,d,tk,os⟩:=s
  obtain⟨e1,e2,h⟩:=h
  have sub:=sub_zip
  have k1:Heap.IsTuple (Shared.heap ⟨hp,g,d,tk,os⟩) t1 vs:=e1
  have k2:Heap.IsTuple (Shared.heap ⟨hp.push {cls:= .type "tuple_iterator",data:= .fields #[.ref t1, .int 0 0]},g,d,tk,os⟩) t2 us:=Heap.IsTuple.push e2 _
  wp_walk using wpAny_pyIter_tuple k1,wpAny_pyIter_tuple k2
  exact⟨_,rfl,h⟩
section
variable{prog:Program}{w:World}{A:Around}{E:Value→Shared→Prop}{s:Shared}
theorem zv{t1 t2:Addr}{vs us:Array Value}{Q:Value→Shared→Prop}(e1:s.heap.IsTuple t1 vs)(e2:s.heap.IsTuple t2 us)
 (k:∀h',ZP h' (s.heap.objs.size+4) (s.heap.objs.size+2) (s.heap.objs.size+3) s.heap.objs.size (s.heap.objs.size+1) t1 t2 0 .none .none .none vs us→(∀c o,s.heap.get? c=some o→h'.get? c=some o)→Q (.ref (s.heap.objs.size+4)) {s with heap:=h'}):
 wpAny (model prog w) A (call (.type "zip") [.ref t1, .ref t2]) Q E s:=by
 refine callType_new F.called_zip (by decide) (F.typeCall_zip_2 _ _) (F.newCall_zip_2 _ _) (fun o=>F.args_object_init_3 o _ _) F.entry_zip_new (BT t1 t2 vs us) ⟨e1,e2, ?_⟩
 have z1:(tz1 s.heap t1).objs.size=s.heap.objs.size+1:=Heap.size_push ..
 have z2:(tz2 s.heap t1 t2).objs.size=s.heap.objs.size+2:=by rw[Heap.size_push,z1]
 have z3:(tz3 s.heap t1 t2).objs.size=s.heap.objs.size+3:=by rw[Heap.size_push,z2]
 have z4:(tz4 s.heap t1 t2).objs.size=s.heap.objs.size+4:=by rw[Heap.size_push,z3]
 have up:∀c o,s.heap.get? c=some o→(tz5 s.heap t1 t2).get? c=some o:=fun c o e=>Heap.get?_push_of_some _ (Heap.get?_push_of_some _ (Heap.get?_push_of_some _ (Heap.get?_push_of_some _ (Heap.get?_push_of_some _ e))))
 have g5:(tz5 s.heap t1 t2).get? (tz4 s.heap t1 t2).objs.size=some _:=Heap.get?_push_size _ rfl
 have g4:(tz5 s.heap t1 t2).get? (tz3 s.heap t1 t2).objs.size=some _:=Heap.get?_push_of_some _ (Heap.get?_push_size _ rfl)
 have g3:(tz5 s.heap t1 t2).get? (tz2 s.heap t1 t2).objs.size=some _:=Heap.get?_push_of_some _ (Heap.get?_push_of_some _ (Heap.get?_push_size _ rfl))
 have g2:(tz5 s.heap t1 t2).get? (tz1 s.heap t1).objs.size=some _:=Heap.get?_push_of_some _ (Heap.get?_push_of_some _ (Heap.get?_push_of_some _ (Heap.get?_push_size _ rfl)))
 have g1:(tz5 s.heap t1 t2).get? s.heap.objs.size=some _:=Heap.get?_push_of_some _ (Heap.get?_push_of_some _ (Heap.get?_push_of_some _ (Heap.get?_push_of_some _ (Heap.get?_push_size _ rfl))))
 show _∧_
 rw[z4,z3,z2] at g5
 rw[z3] at g4
 rw[z2,z1] at g3
 rw[z1] at g2
 obtain⟨p1,x1,r1⟩:=e1
 obtain⟨p2,x2,r2⟩:=e2
 rw[z4]
 exact⟨⟨_,g5,rfl⟩,k (tz5 s.heap t1 t2) ⟨g5,g3,g4,⟨_,g1,rfl,rfl⟩,⟨_,g2,rfl,rfl⟩,⟨p1,up _ _ x1,r1⟩,⟨p2,up _ _ x2,r2⟩⟩ up⟩
end
def DE(K:W.Frag)(l1 l2:Addr):It:=
 ⟨fun i H=>∃xs ys,SqT K H l1 xs∧SqT K H l2 ys∧i<xs.length∧i<ys.length,
  fun i H x H'=>∃T a b,H T=none∧x= .ref T∧H'=upd H T (.tup [a,b])∧(∀xs,SqT K H l1 xs→xs[i]? =some a)∧(∀ys,SqT K H l2 ys→ys[i]? =some b),
  fun i H=>∃xs ys,SqT K H l1 xs∧SqT K H l2 ys∧xs.length≤i⟩
def wU(z ti to_ j1 j2 l1 l2:Addr)(i:Nat)(h:Heap):Prop:=IsZip h z ti to_ .none∧IsPair h ti (.ref j1) (.ref j2)∧(∃a b,IsPair h to_ a b)∧h.IsTupleIter j1 l1 i∧h.IsTupleIter j2 l2 i
theorem lH{h h':Heap}{j t:Addr}{i:Nat}(u:h.IsTupleIter j t i)(k:∀o,h.get? j=some o→h'.get? j=some o):h'.IsTupleIter j t i:=by
 obtain⟨o,e,r⟩:=u
 exact⟨o,k o e,r⟩
theorem vx{P:Program}{w:World}{K:W.Frag}{elts:List Expr}{kk:Nat}{tpos:Pos}(z ti to_ j1 j2 l1 l2:Addr)(D:ZipApart z ti to_ j1 j2 l1 l2):
 Turn P w K (.Tuple elts kk tpos) (DE K l1 l2) [z,ti,to_,j1,j2] z (wU z ti to_ j1 j2 l1 l2) where
 mem:=by simp
 obj:=fun i h st b hb=>by
  obtain⟨hz,hTI,⟨a,c,hTO⟩,⟨o1,e1,_,d1⟩,⟨o2,e2,_,d2⟩⟩:=st
  simp only[List.mem_cons,List.not_mem_nil,or_false] at hb
  rcases hb with rfl|rfl|rfl|rfl|rfl
  · exact⟨_,hz,fun v q=>by cases (show Data.fields _=Data.cell v from q)⟩
  · exact⟨_,hTI,fun v q=>by cases (show Data.seq _ _=Data.cell v from q)⟩
  · exact⟨_,hTO,fun v q=>by cases (show Data.seq _ _=Data.cell v from q)⟩
  · exact⟨_,e1,fun v q=>by rw[d1] at q;cases q⟩
  · exact⟨_,e2,fun v q=>by rw[d2] at q;cases q⟩
 keep:=fun i h h' st k=>by
  obtain⟨hz,hTI,⟨a,c,hTO⟩,h1,h2⟩:=st
  exact⟨k z (by simp) _ hz,k ti (by simp) _ hTI,⟨a,c,k to_ (by simp) _ hTO⟩,lH h1 fun o e=>k j1 (by simp) o e,lH h2 fun o e=>k j2 (by simp) o e⟩
 item:=by
  intro X hP hw hK hc i pins s σ H E I hf st hg
  subst hP hw hK
  obtain⟨xs,ys,q1,q2,g1,g2⟩:=hg
  obtain⟨its1,r1,p1,z1⟩:=I.tuple q1
  obtain⟨its2,r2,p2,z2⟩:=I.tuple q2
  obtain⟨u1,e1,ru1⟩:=r1.get (List.getElem?_eq_getElem g1)
  obtain⟨u2,e2,ru2⟩:=r2.get (List.getElem?_eq_getElem g2)
  obtain⟨hz,hTI,⟨a,c,hTO⟩,h1,h2⟩:=st
  refine vv (x:=u1) (y:=u2) D ⟨hz,hTI,hTO,h1,h2,p1,p2⟩ (by simpa using e1) (by simpa using e2) fun h1' a1 a2 a3 a4 a5 hk=>⟨_,rfl, ?_⟩
  refine wpAny_letOwnedTupleGo_zip a1 fun h2' hz' hs'=> ?_
  have lt:∀{c o},s.heap.get? c=some o→s.heap.objs.size≠c:=fun e=>Nat.ne_of_gt (Heap.lt_size e)
  have Tz:s.heap.objs.size≠z:=lt hz
  have kz:∀b o,b≠z→h1'.get? b=some o→h2'.get? b=some o:=fun b o hb e=>hs'.extBut _ _ hb e
  have I':Inv X pins σ (upd H s.heap.objs.size (.tup [xs[i],ys[i]])) {s with heap:=h2'}:=by
   refine I.turnedNew (t':=s.toks) (ch:=[z,to_,j1,j2]) (fun b o hb e=> ?_) (fun b hb=>hf b (by
    simp only[List.mem_cons,List.not_mem_nil,or_false] at hb ⊢
    rcases hb with rfl|rfl|rfl|rfl<;>simp)) (Nat.le_refl _) ?_
   · simp only[List.mem_cons,List.not_mem_nil,or_false,not_or] at hb
     exact kz b o hb.1 (hk b o hb.1 hb.2.1 hb.2.2.1 hb.2.2.2 e)
   · exact⟨(by show 2≤sizeLine;decide),[u1,u2], .cons ru1 (.cons ru2 .nil),_,kz _ _ Tz a5,rfl,_,rfl⟩
  refine⟨.ref s.heap.objs.size,_,I',rfl,⟨s.heap.objs.size,xs[i],ys[i],I.hok.fresh (Nat.le_refl _),rfl,rfl,fun xs' q'=> ?_,fun ys' q'=> ?_⟩,⟨hz', ?_,⟨_,_,kz _ _ D.TOz a2⟩, ?_, ?_⟩,fun b hb=> ?_⟩
  · rw[I.tuple_inj q' q1];exact List.getElem?_eq_getElem g1
  · rw[I.tuple_inj q' q2];exact List.getElem?_eq_getElem g2
  · exact kz _ _ D.TIz (hk _ _ D.TIz D.TITO D.TIi1 D.TIi2 hTI)
  · exact lH a3 fun o e=>kz _ _ D.i1z e
  · exact lH a4 fun o e=>kz _ _ D.i2z e
  · have n:=(hf b hb).1
    simp only[List.mem_cons,List.not_mem_nil,or_false] at hb
    have ob:∃o,s.heap.get? b=some o:=by
     obtain⟨o1,x1,_⟩:=h1
     obtain⟨o2,x2,_⟩:=h2
     rcases hb with rfl|rfl|rfl|rfl|rfl
     · exact⟨_,hz⟩
     · exact⟨_,hTI⟩
     · exact⟨_,hTO⟩
     · exact⟨_,x1⟩
     · exact⟨_,x2⟩
    obtain⟨o,eo⟩:=ob
    rw[aJ (Ne.symm (lt eo))]
    exact n
 done:=by
  intro X hP hw hK hc i pins s σ H E I hf st hg
  subst hP hw hK
  obtain⟨xs,ys,q1,q2,g⟩:=hg
  obtain⟨its1,r1,p1,z1⟩:=I.tuple q1
  obtain⟨its2,r2,p2,z2⟩:=I.tuple q2
  obtain⟨hz,hTI,⟨a,c,hTO⟩,h1,h2⟩:=st
  have l1':=r1.length
  refine vw (I.ok.hd hc) D ⟨hz,hTI,hTO,h1,h2,p1,p2⟩ (Array.getElem?_eq_none (by rw[List.size_toArray];omega)) fun h' hk=>⟨rfl, ?_⟩
  refine I.turnedL (t':=s.toks) (ch:=[z,to_,j1,j2]) (fun b o hb e=> ?_) (fun b hb=>hf b (by
   simp only[List.mem_cons,List.not_mem_nil,or_false] at hb ⊢
   rcases hb with rfl|rfl|rfl|rfl<;>simp))
  simp only[List.mem_cons,List.not_mem_nil,or_false,not_or] at hb
  exact hk b o hb.1 hb.2.1 hb.2.2.1 hb.2.2.2 e
 self:=fun _ _ _ _ _ st h=>wpAny_pyIter_zip st.1 h
def wV(K:W.Frag)(ta:TA):TI:=fun σ H R=>ta σ H fun vs H1=>∃l1 l2 xs ys,vs=[.ref l1, .ref l2]∧SqT K H1 l1 xs∧SqT K H1 l2 ys∧R (DE K l1 l2) H1
theorem zw{X:Cx}{a b:Expr}{ta:TA}{p pos tpos:Pos}{elts:List Expr}{kk:Nat}(hg:Gl X "zip")(hm:X.mg "zip"=none)(ha:PA X [a,b] ta)(hs:starEach [a,b] X.env=[(false,eval a X.env),(false,eval b X.env)]:=by rfl)(hs2:starEach [b] X.env=[(false,eval b X.env)]:=by rfl):
 PI X (.Tuple elts kk tpos) (.Call (.Name "zip" p) [a,b] [] pos) (wV X.K ta):=by
 intro pins s σ H R I h
 refine Call_ (kn I hg hm (show bootBuiltins "zip"=some (.type "zip") from by decide+kernel) (PyProof.Rows.callWith_type1 (thn (ha pos pins s σ H _ I h) fun us s1 ⟨vs,H1,I1,r1,q1⟩=> ?_) (by rw[hs,hs2]) (by rw[hs2];rfl)))
 obtain⟨l1,l2,xs,ys,e,q1,q2,q⟩:=q1
 subst e
 obtain⟨u1,u2,rfl,ru1,ru2⟩:=r1.two
 cases ru1
 cases ru2
 obtain⟨its1,v1,p1,z1⟩:=I1.tuple q1
 obtain⟨its2,v2,p2,z2⟩:=I1.tuple q2
 have b1:l1<s1.heap.objs.size:=by obtain⟨o,e,_⟩:=p1;exact Heap.lt_size e
 have b2:l2<s1.heap.objs.size:=by obtain⟨o,e,_⟩:=p2;exact Heap.lt_size e
 refine zv p1 p2 fun h' Z hk=> ?_
 have D:=lF b1 b2
 refine wpAny_pyIter_zip Z.z ?_
 refine⟨_,_,wU _ _ _ _ _ _ _,_,H1,rfl,I1.kept (t':=s1.toks) hk,vx _ _ _ _ _ _ _ D,⟨Z.z,Z.ti,⟨_,_,Z.to_⟩,Z.j1,Z.j2⟩,fun b hb=> ?_,q⟩
 have hb':s1.heap.objs.size≤b:=by
  simp only[List.mem_cons,List.not_mem_nil,or_false] at hb
  rcases hb with rfl|rfl|rfl|rfl|rfl
  · exact Nat.le_add_right _ _
  · exact Nat.le_add_right _ _
  · exact Nat.le_add_right _ _
  · exact Nat.le_refl _
  · exact Nat.le_add_right _ _
 exact I1.fpOk hb' (I1.hok.fresh hb')
end L2
namespace L2
open PySem PySem.Spec PyProof.Rows
section
variable{X:Cx}{pins:List (Addr×Obj)}{σ:St}{H:Hp}{s:Shared}
theorem wW{elt iter tg:Expr}{xs:List Str}{kx:Nat}{g:TG}{ifs:List Expr}{scope:Scope}{pos:Pos}{wi:TI}{tc:TT}{te:TE}(cn:List Str)(cap:List Nat)(S:CompScopeT X scope xs cn cap)(hc:X.calm=true)
 (hkx:xs.length=kx)(hg:∀cl C s₀ H₀ ex,PG (bJ X scope (xs++cn) cl C s₀ H₀ ex) tg g)
 (hi:PI X tg iter wi)(hin:∀cl C s₀ H₀ ex,wn (bJ X scope (xs++cn) cl C s₀ H₀ ex) ifs tc)(he:∀cl C s₀ H₀ ex,PE (bJ X scope (xs++cn) cl C s₀ H₀ ex) elt te)
 {y:Str}{py:Pos}{apos:Pos}(iy:Nat)(hN:X.N.Nodup)(hiy:X.N[iy]? =some y)(hxy:Loc X.env.scope y)(hsw:swapsWith (.ListComp elt [⟨tg,iter,ifs,0⟩] scope pos) (some (.Name y py)) apos.line X.env=pure true:=by rfl)(hfy:X.fn y=true∨X.env.scope.names.lookup y=some .local:=by first|exact .inl rfl|exact .inr rfl|assumption)
 (hs:∀z,foldedSetIterable iter X.env z=pure z:=by intro _;rfl):PS X (.Assign [.Name y py] (.ListComp elt [⟨tg,iter,ifs,0⟩] scope pos) apos) (mL (sN wi kx g tc te cap) (iD iy)):=by
 intro pins s σ H D I h
 rw[exec_Assign_Name_used _ _ _ _ hsw]
 refine wpAny_bind (wpAny_standAt (wpAny_bind ?_))
 show wpAny _ _ (comprehension (.ListComp elt [⟨tg,iter,ifs,0⟩] scope pos) scope X.env (firstIterPos [⟨tg,iter,ifs,0⟩] pos) (newList []) false (firstIter [⟨tg,iter,ifs,0⟩] X.env) (some (assign (.Name y py) X.env))>>=fun _=>pure ()) _ _ _
 refine wpAny_bind (wpAny_mono (Q:=fun _ s'=>∃σ' H',Inv X pins σ' H' s'∧D.nx σ' H') ?_ (fun _ s' q=>wpAny_pure (wpAny_pure q)) fun _ _ z=>z)
 refine sO cn cap S hc hkx hg hi hin he hs I h fun d C H3 s4 m J fC hn qn r=> ?_
 refine wpAny_assign_Name (oX J hN hiy hxy (v:= .ref d) rfl (fun s5 I6 hh1=> ?_) hfy)
 obtain⟨a,sb,ha⟩:=hh1
 have nC:C≠a:=by
  rcases ha with ha|ha
  · rw[ha];exact fC.2.1
  · exact(fC.2.2.2.2.1 _ _ ha).symm
 obtain⟨oC,esC,epC,hoC,rC⟩:=hn
 refine⟨m,⟨oC,esC,epC,sb.extBut _ _ nC hoC,rC⟩,fun h' hsb=>⟨_,H3, ?_,qn⟩⟩
 refine I6.turnedL (t':=s5.toks) (ch:=[C]) (fun b o hb e=>hsb.extBut b o (by simpa using hb) e) (fun b hb=> ?_)
 cases List.mem_singleton.mp hb
 exact fC
end
section
variable{X:Cx}
def wX(K:W.Frag):R2:=fun x y H Q=>∃a b ys,x= .ref a∧y= .ref b∧SqT K H a []∧SqT K H b ys∧Q (.ref b) H
theorem wY:OpR X (binaryOp .Add) (wX X.K):=by
 intro pins s σ H x y v u Q I rx ry h
 obtain⟨a,b,ys,rfl,rfl,ha,hb,q⟩:=h
 cases rx
 cases ry
 obtain⟨its,r1,p1,_⟩:=I.tuple ha
 obtain⟨its2,r2,p2,_⟩:=I.tuple hb
 have hv:its=[]:=r1.nil_iff.mpr rfl
 obtain⟨⟨cls,dd,data,sl⟩,ho,hc,n,hd⟩:=id p1
 obtain⟨⟨cls2,dd2,data2,sl2⟩,ho2,hc2,n2,hd2⟩:=id p2
 simp only at hc hd hc2 hd2
 subst hc hd hc2 hd2
 exact concat_meets ⟨_,ho,rfl⟩ ⟨_,ho2,rfl⟩ noFill_tuple_add seq_tuple_add PySem.F.slot_tuple_add PySem.F.entry_tuple_add (PySem.F.args_tuple_add_2 _ _)
  (tuple_addW0 a b its.toArray its2.toArray n n2 dd dd2 sl sl2 (by simp[hv])) ⟨ho,ho2,⟨.ref b,H,I,rfl,q⟩⟩
def uk(K:W.Frag):R2:=fun x y H Q=>AE x y H Q∨(AC K x y H Q∨wX K x y H Q)
theorem aw:OpR X (binaryOp .Add) (uk X.K):=zc.or (y2.or wY)
theorem m9{K:W.Frag}(h:X.K=K):OpR X (binaryOp .Add) (uk K):=h▸aw
abbrev DF:R2:=fun x y H Q=>(y= .non∧Q (.bl (decide (x= .non))) H)∨∃b,y= .bl b∧Q (.bl (decide (x= .bl b))) H
theorem BU:OpR X (compareOp .Is) (fun x y H Q=>∃b,y= .bl b∧Q (.bl (decide (x= .bl b))) H):=by
 intro pins s σ H x y v u Q I rx ry h
 obtain⟨b,rfl,q⟩:=h
 cases ry
 have fin:∀v,compareOp .Is v (.bool b)=pure (.bool (v== .bool b))→(v== .bool b)=decide (x= .bl b)→wpAny (model X.prog X.w) X.A (compareOp .Is v (.bool b)) (EP X pins σ Q) X.xe s:=fun v e1 e2=>by
  rw[e1]
  exact wpAny_pure (bH I q e2.symm)
 cases x<;>first
  |(cases rx;exact fin _ rfl (by first|rfl|(rename_i c;cases c<;>cases b<;>rfl)))
  |(obtain⟨t,rfl⟩:=rx;exact fin _ rfl rfl)
theorem lI:OpR X (compareOp .Is) DF:=Bl.or BU
end
section
variable{prog:Program}{w:World}{A:Around}{E:Value→Shared→Prop}{s:Shared}{it l:Addr}{its:Array Value}
end
section
variable{κ:Type}[DecidableEq κ]
end
abbrev KT(H:Hp):List (List Key×V)→List (List Key×Addr×Value)→Prop:=Paired fun p q=>p.1=q.1∧H q.2.1=some (.tup (p.1.map kV))∧RelV p.2 q.2.2
section
variable{P:Program}{w:World}{H:Hp}{h:Heap}{a:Addr}
end
section
variable{X:Cx}{pins:List (Addr×Obj)}{σ:St}{H:Hp}{s:Shared}{a:Addr}{y v:V}{u r:Value}{o:Option V}{A:Around}{E:Value→Shared→Prop}
end
section
variable{X:Cx}{pins:List (Addr×Obj)}{σ:St}{H:Hp}{s:Shared}{a:Addr}{kvs:List (Key×V)}{k:Key}{u:Value}{A:Around}{E:Value→Shared→Prop}
end
section
variable{X:Cx}{o i e value:Expr}{pos pos' tpos:Pos}{td ty tv:TE}
end
section
variable{X:Cx}{pos:Pos}
end
section
variable{X:Cx}{pins:List (Addr×Obj)}{σ:St}{H:Hp}{s:Shared}{a:Addr}{y d:V}{u r:Value}{o:Option V}{A:Around}{E:Value→Shared→Prop}
end
section
variable{X:Cx}{o e f:Expr}{apos cpos:Pos}{td ty tx:TE}
end
section
variable{X:Cx}{pins:List (Addr×Obj)}{σ:St}{H:Hp}{s:Shared}{a:Addr}{kvs:List (Key×V)}{A:Around}{E:Value→Shared→Prop}
end
section
variable{X:Cx}{pins:List (Addr×Obj)}{σ:St}{H:Hp}{s:Shared}{a:Addr}{y:V}{u:Value}{A:Around}{E:Value→Shared→Prop}
end
section
variable{prog:Program}{w:World}{A:Around}{E:Value→Shared→Prop}{s:Shared}{a it:Addr}{es:Array DictEntry}{ep i:Nat}
end
section
variable{X:Cx}{a b c d:Expr}{ta tb tc td:TE}{pos:Pos}
end
theorem p4{us:List Value}{n:Nat}(h:us.length=n+1):∃a r,us=a::r:=by
 cases us with
 |nil=>cases h
 |cons a r=>exact⟨a,r,rfl⟩
theorem us1{us:List Value}(h:us.length=1):∃a,us=[a]:=by
 obtain⟨a,us,rfl⟩:=p4 h
 exact⟨a,by rw[List.eq_nil_of_length_eq_zero (Nat.succ.inj h)]⟩
theorem us2{us:List Value}(h:us.length=2):∃a b,us=[a,b]:=by
 obtain⟨a,us,rfl⟩:=p4 h
 obtain⟨b,rfl⟩:=us1 (Nat.succ.inj h)
 exact⟨a,b,rfl⟩
theorem us3{us:List Value}(h:us.length=3):∃a b c,us=[a,b,c]:=by
 obtain⟨a,us,rfl⟩:=p4 h
 obtain⟨b,c,rfl⟩:=us2 (Nat.succ.inj h)
 exact⟨a,b,c,rfl⟩
theorem us4{us:List Value}(h:us.length=4):∃a b c d,us=[a,b,c,d]:=by
 obtain⟨a,us,rfl⟩:=p4 h
 obtain⟨b,c,d,rfl⟩:=us3 (Nat.succ.inj h)
 exact⟨a,b,c,d,rfl⟩
end L2
namespace PD
open PySem L2
inductive Cl where
 |Open|Bridge|Road|Cart|Trip|Day
 deriving DecidableEq
inductive Fl where
 |length|name|bears|wide|most|pieces|rounds|shuts|speed|wheels|cart|way|start|crossings|ended|road|loads|sends
 deriving DecidableEq
def Cl.s:Cl→Str
 | .Open=>"Open"| .Bridge=>"Bridge"| .Road=>"Road"| .Cart=>"Cart"| .Trip=>"Trip"| .Day=>"Day"
def Fl.s:Fl→Str
 | .length=>"length"| .name=>"name"| .bears=>"bears"| .wide=>"wide"| .most=>"most"| .pieces=>"pieces"| .rounds=>"rounds"| .shuts=>"shuts"
 | .speed=>"speed"| .wheels=>"wheels"| .cart=>"cart"| .way=>"way"| .start=>"start"| .crossings=>"crossings"| .ended=>"ended"| .road=>"road"| .loads=>"loads"| .sends=>"sends"
def Cl.fs:Cl→List Fl
 | .Open=>[.length]| .Bridge=>[.name, .length, .bears, .wide, .most]| .Road=>[.pieces, .rounds, .shuts]| .Cart=>[.name, .speed, .wheels]
 | .Trip=>[.cart, .way, .start, .crossings, .ended]| .Day=>[.road, .loads, .sends]
inductive D where
 |non|bl (b:Bool)|int (i:Int)|str (x:Str)
 |tup (xs:List D)|kt (xs:List D)|lst (xs:List D)|fz (xs:List D)
 |ob (c:Cl) (fs:List (Fl×D))
 |dk (ks:List Key) (ds:List D)|dt (ks:List (List Key)) (ds:List D)
def CF(K:W.Frag)(ns:List Str)(c:Cl):Prop:=PKd K ns (clA K c.s) [c.s] (c.fs.map Fl.s)
def KT(K:W.Frag)(a:Addr)(xs:List V):Prop:=∃(o:Obj) (its:Array Value) (n:Nat),K.lookup a=some o∧o.cls= .type "tuple"∧o.data= .seq its n∧its.size≤sizeLine∧Vals xs its.toList
def FZ(K:W.Frag)(H:Hp)(a:Addr)(xs:List V):Prop:=(∃o:Obj,H a=some (.frz o (.lst xs)))∨∃(o:Obj) (its:Array Value) (n:Nat),K.lookup a=some o∧o.cls= .type "list"∧o.dict=none∧o.data= .seq its n∧its.size≤sizeLine∧Vals xs its.toList
mutual
inductive Rd(K:W.Frag)(ns:List Str)(L:Addr→Prop)(H:Hp):V→D→Prop
 |non:Rd K ns L H .non .non
 |bl (b:Bool):Rd K ns L H (.bl b) (.bl b)
 |int (i:Int):Rd K ns L H (.int i) (.int i)
 |str (x:Str):Rd K ns L H (.str x) (.str x)
 |tup {a:Addr} {vs:List V} {ds:List D} (e:H a=some (.tup vs)) (r:Rds K ns L H vs ds):Rd K ns L H (.ref a) (.tup ds)
 |kt {a:Addr} {vs:List V} {ds:List D} (e:KT K a vs) (r:Rds K ns L H vs ds):Rd K ns L H (.ref a) (.kt ds)
 |lst {a:Addr} {vs:List V} {ds:List D} (l:L a) (e:H a=some (.lst vs)) (r:Rds K ns L H vs ds):Rd K ns L H (.ref a) (.lst ds)
 |fz {a:Addr} {vs:List V} {ds:List D} (e:FZ K H a vs) (r:Rds K ns L H vs ds):Rd K ns L H (.ref a) (.fz ds)
 |ob {a dx:Addr} {gs:List (Str×V)} {c:Cl} {fs:List (Fl×D)} (l:L a) (e:H a=some (.ins (clA K c.s) dx gs)) (k:CF K ns c) (r:Rfs K ns L H gs fs):Rd K ns L H (.ref a) (.ob c fs)
 |dk {a:Addr} {kvs:List (Key×V)} {ds:List D} (l:L a) (e:H a=some (.dK kvs)) (r:Rds K ns L H (kvs.map (·.2)) ds):Rd K ns L H (.ref a) (.dk (kvs.map (·.1)) ds)
 |dt {a:Addr} {kvs:List (List Key×V)} {ds:List D} (l:L a) (e:H a=some (.dT kvs)) (r:Rds K ns L H (kvs.map (·.2)) ds):Rd K ns L H (.ref a) (.dt (kvs.map (·.1)) ds)
inductive Rds(K:W.Frag)(ns:List Str)(L:Addr→Prop)(H:Hp):List V→List D→Prop
 |nil:Rds K ns L H [] []
 |cons {v:V} {d:D} {vs:List V} {ds:List D} (h:Rd K ns L H v d) (t:Rds K ns L H vs ds):Rds K ns L H (v::vs) (d::ds)
inductive Rfs(K:W.Frag)(ns:List Str)(L:Addr→Prop)(H:Hp):List (Str×V)→List (Fl×D)→Prop
 |nil {gs:List (Str×V)}:Rfs K ns L H gs []
 |cons {gs:List (Str×V)} {f:Fl} {v:V} {d:D} {fs:List (Fl×D)} (e:gs.lookup f.s=some v) (h:Rd K ns L H v d) (t:Rfs K ns L H gs fs):Rfs K ns L H gs ((f,d)::fs)
end
def wZ:HO→Bool
 | .lst _=>true
 | .ins _ _ _=>true
 | .dK _=>true
 | .dT _=>true
 |_=>false
def KeepL(L:Addr→Prop)(H H':Hp):Prop:=∀a o,H a=some o→(wZ o=true→L a)→H' a=some o
section
variable{K:W.Frag}{ns:List Str}{L L':Addr→Prop}{H H' H'':Hp}
theorem KeepL.of(h:Same H H'):KeepL L H H':=fun a o e _=>h a o e
theorem KeepL.refl:KeepL L H H:=fun _ _ e _=>e
theorem Rd.mono2(hL:∀a o,H a=some o→L a→L' a)(hk:KeepL L H H'){v:V}{d:D}(h:Rd K ns L H v d):Rd K ns L' H' v d:=Rd.rec (motive_1:=fun v d _=>Rd K ns L' H' v d) (motive_2:=fun vs ds _=>Rds K ns L' H' vs ds) (motive_3:=fun gs fs _=>Rfs K ns L' H' gs fs) .non .bl .int .str (fun e _ ih=> .tup (hk _ _ e fun z=>by cases z) ih) (fun e _ ih=> .kt e ih) (fun l e _ ih=> .lst (hL _ _ e l) (hk _ _ e fun _=>l) ih) (fun e _ ih=> .fz (e.imp (fun z=>z.elim fun o z=>⟨o,hk _ _ z fun z=>by cases z⟩) id) ih) (fun l e k _ ih=> .ob (hL _ _ e l) (hk _ _ e fun _=>l) k ih) (fun l e _ ih=> .dk (hL _ _ e l) (hk _ _ e fun _=>l) ih) (fun l e _ ih=> .dt (hL _ _ e l) (hk _ _ e fun _=>l) ih) .nil (fun _ _ h t=> .cons h t) .nil (fun e _ _ h t=> .cons e h t) h
theorem Rds.mono2(hL:∀a o,H a=some o→L a→L' a)(hk:KeepL L H H'){vs:List V}{ds:List D}(h:Rds K ns L H vs ds):Rds K ns L' H' vs ds:=Rds.rec (motive_1:=fun v d _=>Rd K ns L' H' v d) (motive_2:=fun vs ds _=>Rds K ns L' H' vs ds) (motive_3:=fun gs fs _=>Rfs K ns L' H' gs fs) .non .bl .int .str (fun e _ ih=> .tup (hk _ _ e fun z=>by cases z) ih) (fun e _ ih=> .kt e ih) (fun l e _ ih=> .lst (hL _ _ e l) (hk _ _ e fun _=>l) ih) (fun e _ ih=> .fz (e.imp (fun z=>z.elim fun o z=>⟨o,hk _ _ z fun z=>by cases z⟩) id) ih) (fun l e k _ ih=> .ob (hL _ _ e l) (hk _ _ e fun _=>l) k ih) (fun l e _ ih=> .dk (hL _ _ e l) (hk _ _ e fun _=>l) ih) (fun l e _ ih=> .dt (hL _ _ e l) (hk _ _ e fun _=>l) ih) .nil (fun _ _ h t=> .cons h t) .nil (fun e _ _ h t=> .cons e h t) h
theorem Rfs.mono2(hL:∀a o,H a=some o→L a→L' a)(hk:KeepL L H H'){gs:List (Str×V)}{fs:List (Fl×D)}(h:Rfs K ns L H gs fs):Rfs K ns L' H' gs fs:=Rfs.rec (motive_1:=fun v d _=>Rd K ns L' H' v d) (motive_2:=fun vs ds _=>Rds K ns L' H' vs ds) (motive_3:=fun gs fs _=>Rfs K ns L' H' gs fs) .non .bl .int .str (fun e _ ih=> .tup (hk _ _ e fun z=>by cases z) ih) (fun e _ ih=> .kt e ih) (fun l e _ ih=> .lst (hL _ _ e l) (hk _ _ e fun _=>l) ih) (fun e _ ih=> .fz (e.imp (fun z=>z.elim fun o z=>⟨o,hk _ _ z fun z=>by cases z⟩) id) ih) (fun l e k _ ih=> .ob (hL _ _ e l) (hk _ _ e fun _=>l) k ih) (fun l e _ ih=> .dk (hL _ _ e l) (hk _ _ e fun _=>l) ih) (fun l e _ ih=> .dt (hL _ _ e l) (hk _ _ e fun _=>l) ih) .nil (fun _ _ h t=> .cons h t) .nil (fun e _ _ h t=> .cons e h t) h
theorem Rd.mono(hL:∀a,L a→L' a)(hk:KeepL L H H'){v:V}{d:D}(h:Rd K ns L H v d):Rd K ns L' H' v d:=h.mono2 (fun a _ _=>hL a) hk
theorem Rds.mono(hL:∀a,L a→L' a)(hk:KeepL L H H'){vs:List V}{ds:List D}(h:Rds K ns L H vs ds):Rds K ns L' H' vs ds:=h.mono2 (fun a _ _=>hL a) hk
theorem Rfs.mono(hL:∀a,L a→L' a)(hk:KeepL L H H'){gs:List (Str×V)}{fs:List (Fl×D)}(h:Rfs K ns L H gs fs):Rfs K ns L' H' gs fs:=h.mono2 (fun a _ _=>hL a) hk
abbrev Nw(L:Addr→Prop)(H:Hp):Addr→Prop:=fun a=>L a∨H a=none
theorem gG{a:Addr}(S:Same H H')(h:H' a=none):H a=none:=by
 cases e:H a with
 |none=>rfl
 |some o=>rw[S _ _ e] at h;cases h
theorem nw2(S:Same H H'){a:Addr}(h:Nw (Nw L H) H' a):Nw L H a:=h.elim id fun q=> .inr (gG S q)
theorem Rd.nw{v:V}{d:D}(h:Rd K ns L H v d):Rd K ns (Nw L H) H v d:=h.mono (fun _=> .inl) .refl
theorem Rd.same{v:V}{d:D}(h:Rd K ns L H v d)(S:Same H H'):Rd K ns L H' v d:=h.mono (fun _ q=>q) (.of S)
theorem Rds.same{v:List V}{d:List D}(h:Rds K ns L H v d)(S:Same H H'):Rds K ns L H' v d:=h.mono (fun _ q=>q) (.of S)
theorem Rds.nilL{ds:List D}(h:Rds K ns L H [] ds):ds=[]:=by cases h;rfl
theorem Rds.consL{v:V}{vs:List V}{ds:List D}(h:Rds K ns L H (v::vs) ds):∃d es,ds=d::es∧Rd K ns L H v d∧Rds K ns L H vs es:=by
 cases h with
 |cons h t=>exact⟨_,_,rfl,h,t⟩
theorem Rds.len{vs:List V}{ds:List D}(h:Rds K ns L H vs ds):vs.length=ds.length:=by
 induction vs generalizing ds with
 |nil=>rw[h.nilL];rfl
 |cons v vs ih=>
  obtain⟨d,es,rfl,a,t⟩:=h.consL
  exact congrArg Nat.succ (ih t)
theorem Rds.get{vs:List V}{ds:List D}{i:Nat}{d:D}(h:Rds K ns L H vs ds)(e:ds[i]? =some d):∃v,vs[i]? =some v∧Rd K ns L H v d:=by
 induction vs generalizing ds i with
 |nil=>rw[h.nilL] at e;cases e
 |cons v vs ih=>
  obtain⟨c,es,rfl,a,t⟩:=h.consL
  cases i with
  |zero=>cases e;exact⟨_,rfl,a⟩
  |succ i=>exact ih t e
theorem Rds.append{vs ws:List V}{ds es:List D}(h:Rds K ns L H vs ds)(s:Rds K ns L H ws es):Rds K ns L H (vs++ws) (ds++es):=by
 induction vs generalizing ds with
 |nil=>rw[h.nilL];exact s
 |cons v vs ih=>
  obtain⟨d,es,rfl,a,t⟩:=h.consL
  exact .cons a (ih t)
theorem Rds.drop{vs:List V}{ds:List D}(n:Nat)(h:Rds K ns L H vs ds):Rds K ns L H (vs.drop n) (ds.drop n):=by
 induction vs generalizing ds n with
 |nil=>rw[h.nilL,List.drop_nil,List.drop_nil];exact .nil
 |cons v vs ih=>
  obtain⟨d,es,rfl,a,t⟩:=h.consL
  cases n with
  |zero=>exact h
  |succ n=>exact ih n t
theorem Rds.take{vs:List V}{ds:List D}(n:Nat)(h:Rds K ns L H vs ds):Rds K ns L H (vs.take n) (ds.take n):=by
 induction vs generalizing ds n with
 |nil=>rw[h.nilL,List.take_nil,List.take_nil];exact .nil
 |cons v vs ih=>
  obtain⟨d,es,rfl,a,t⟩:=h.consL
  cases n with
  |zero=>exact .nil
  |succ n=>exact .cons a (ih n t)
theorem Rds.reverse:∀{vs:List V} {ds:List D},Rds K ns L H vs ds→Rds K ns L H vs.reverse ds.reverse
 |_,_, .nil=> .nil
 |_,_, .cons h t=>by rw[List.reverse_cons,List.reverse_cons];exact t.reverse.append (.cons h .nil)
theorem aV{p:Addr}(h:H p=none)(o:HO):Same H (upd H p o):=fun b u q=>by rw[aJ (aG q h)];exact q
theorem iE{α β:Type}:∀{xs:List α} {ys:List β},xs.length=ys.length→xs.isEmpty=ys.isEmpty
 |[],[],_=>rfl
 |_::_,_::_,_=>rfl
 |[],_::_,h=>by cases h
 |_::_,[],h=>by cases h
def RdO(K:W.Frag)(ns:List Str)(L:Addr→Prop)(H:Hp):HO→D→Prop
 | .lst vs, .lst ds=>Rds K ns L H vs ds
 | .dK kvs, .dk ks ds=>kvs.map (·.1)=ks∧Rds K ns L H (kvs.map (·.2)) ds
 | .dT kvs, .dt ks ds=>kvs.map (·.1)=ks∧Rds K ns L H (kvs.map (·.2)) ds
 |_,_=>False
theorem RdO.case{o:HO}{d:D}(h:RdO K ns L H o d):(∃vs ds,o= .lst vs∧d= .lst ds∧Rds K ns L H vs ds)∨(∃kvs ds,o= .dK kvs∧d= .dk (kvs.map (·.1)) ds∧Rds K ns L H (kvs.map (·.2)) ds)∨∃kvs ds,o= .dT kvs∧d= .dt (kvs.map (·.1)) ds∧Rds K ns L H (kvs.map (·.2)) ds:=by
 cases o with
 |lst vs=>cases d<;>first|exact h.elim|exact .inl ⟨_,_,rfl,rfl,h⟩
 |dK kvs=>cases d<;>first|exact h.elim|exact .inr (.inl ⟨_,_,rfl,by rw[h.1],h.2⟩)
 |dT kvs=>cases d<;>first|exact h.elim|exact .inr (.inr ⟨_,_,rfl,by rw[h.1],h.2⟩)
 |_=>exact h.elim
theorem RdO.rd{o:HO}{d:D}{a:Addr}(h:RdO K ns L H o d)(l:L a)(e:H a=some o):Rd K ns L H (.ref a) d:=by
 rcases h.case with⟨vs,ds,rfl,rfl,r⟩|⟨kvs,ds,rfl,rfl,r⟩|⟨kvs,ds,rfl,rfl,r⟩
 · exact .lst l e r
 · exact .dk l e r
 · exact .dt l e r
theorem RdO.map{L':Addr→Prop}{H':Hp}{o:HO}{d:D}(h:RdO K ns L H o d)(f:∀{vs:List V} {ds:List D},Rds K ns L H vs ds→Rds K ns L' H' vs ds):RdO K ns L' H' o d:=by
 rcases h.case with⟨vs,ds,rfl,rfl,r⟩|⟨kvs,ds,rfl,rfl,r⟩|⟨kvs,ds,rfl,rfl,r⟩
 · exact f r
 · exact⟨rfl,f r⟩
 · exact⟨rfl,f r⟩
theorem RdO.mono(hL:∀a,L a→L' a)(hk:KeepL L H H'){o:HO}{d:D}(h:RdO K ns L H o d):RdO K ns L' H' o d:=h.map fun r=>r.mono hL hk
theorem RdO.mono2(hL:∀a o,H a=some o→L a→L' a)(hk:KeepL L H H'){o:HO}{d:D}(h:RdO K ns L H o d):RdO K ns L' H' o d:=h.map fun r=>r.mono2 hL hk
theorem RdO.same{o:HO}{d:D}(h:RdO K ns L H o d)(S:Same H H'):RdO K ns L H' o d:=h.map fun r=>r.same S
theorem RdO.mut{o:HO}{d:D}(h:RdO K ns L H o d):wZ o=true:=by
 rcases h.case with⟨vs,ds,rfl,rfl,r⟩|⟨kvs,ds,rfl,rfl,r⟩|⟨kvs,ds,rfl,rfl,r⟩<;>rfl
theorem SqT.kt{a:Addr}{xs:List V}(h:KT K a xs):SqT K H a xs:= .inr h
theorem SqL.fz{a:Addr}{xs:List V}(h:FZ K H a xs):SqL K H a xs:=h.elim (fun z=> .inl (.inr z)) .inr
theorem FZ.mono{a:Addr}{xs:List V}(h:FZ K H a xs)(hk:KeepL L H H'):FZ K H' a xs:=h.imp (fun⟨o,z⟩=>⟨o,hk _ _ z fun z=>by cases z⟩) id
end
mutual
def D.flat:D→Bool
 | .lst _=>false
 | .tup xs=>flats xs
 | .kt xs=>flats xs
 | .fz xs=>flats xs
 | .ob _ _=>false
 | .dk _ _=>false
 | .dt _ _=>false
 |_=>true
def flats:List D→Bool
 |[]=>true
 |d::r=>d.flat&&flats r
end
section
variable{K:W.Frag}{ns:List Str}{L L':Addr→Prop}{H H' H'':Hp}
theorem Rd.flat{v:V}{d:D}(r:Rd K ns L H v d):d.flat=true→Rd K ns L' H v d:=Rd.rec (motive_1:=fun v d _=>d.flat=true→Rd K ns L' H v d) (motive_2:=fun vs ds _=>flats ds=true→Rds K ns L' H vs ds) (motive_3:=fun _ _ _=>True) (fun _=> .non) (fun b _=> .bl b) (fun i _=> .int i) (fun x _=> .str x) (fun e _ ih h=> .tup e (ih (by simpa [D.flat] using h))) (fun e _ ih h=> .kt e (ih (by simpa [D.flat] using h))) (fun _ _ _ _ h=>by simp[D.flat] at h) (fun e _ ih h=> .fz e (ih (by simpa [D.flat] using h))) (fun _ _ _ _ _ h=>by simp[D.flat] at h) (fun _ _ _ _ h=>by simp[D.flat] at h) (fun _ _ _ _ h=>by simp[D.flat] at h) (fun _=> .nil) (fun _ _ h t q=>by rw[flats,Bool.and_eq_true] at q;exact .cons (h q.1) (t q.2)) trivial (fun _ _ _ _ _=>trivial) r
theorem Rds.flat{vs:List V}{ds:List D}(r:Rds K ns L H vs ds):flats ds=true→Rds K ns L' H vs ds:=Rds.rec (motive_1:=fun v d _=>d.flat=true→Rd K ns L' H v d) (motive_2:=fun vs ds _=>flats ds=true→Rds K ns L' H vs ds) (motive_3:=fun _ _ _=>True) (fun _=> .non) (fun b _=> .bl b) (fun i _=> .int i) (fun x _=> .str x) (fun e _ ih h=> .tup e (ih (by simpa [D.flat] using h))) (fun e _ ih h=> .kt e (ih (by simpa [D.flat] using h))) (fun _ _ _ _ h=>by simp[D.flat] at h) (fun e _ ih h=> .fz e (ih (by simpa [D.flat] using h))) (fun _ _ _ _ _ h=>by simp[D.flat] at h) (fun _ _ _ _ h=>by simp[D.flat] at h) (fun _ _ _ _ h=>by simp[D.flat] at h) (fun _=> .nil) (fun _ _ h t q=>by rw[flats,Bool.and_eq_true] at q;exact .cons (h q.1) (t q.2)) trivial (fun _ _ _ _ _=>trivial) r
end
end PD
namespace PD
open PySem L2
abbrev Env:=List (Option D)
abbrev VF:=Env→Option D
abbrev AF:=Env→Option (List D)
abbrev BF:=Env→Option Bool
def vD(i:Nat):VF:=fun env=>(env[i]?).join
def cD(d:D):VF:=fun _=>some d
def oD(g:D→D→Option D)(fa fb:VF):VF:=fun env=>(fa env).bind fun a=>(fb env).bind fun b=>g a b
def uD(g:D→Option D)(fa:VF):VF:=fun env=>(fa env).bind g
def ao:AF:=fun _=>some []
def ae(fa:VF)(fr:AF):AF:=fun env=>(fa env).bind fun a=>(fr env).bind fun r=>some (a::r)
def cu(fa:AF):VF:=fun env=>(fa env).bind fun ds=>some (.tup ds)
def bF(fa:AF):VF:=fun env=>(fa env).bind fun ds=>some (.lst ds)
def ap(g:List D→Option D)(fa:AF):VF:=fun env=>(fa env).bind g
def bD(f:VF):BF:=fun env=>(f env).bind fun| .bl b=>some b|_=>none
def Ej:D→Option Bool
 | .non=>some false
 | .bl b=>some b
 | .int i=>some (i != 0)
 | .lst xs=>some (!xs.isEmpty)
 | .fz xs=>some (!xs.isEmpty)
 | .tup xs=>some (!xs.isEmpty)
 | .kt xs=>some (!xs.isEmpty)
 |_=>none
def trD(f:VF):BF:=fun env=>(f env).bind Ej
def kK(a b:BF):BF:=fun env=>(a env).bind fun x=>if x=true then b env else some false
def orB(a b:BF):BF:=fun env=>(a env).bind fun x=>if x=true then some true else b env
def j6(a:BF):BF:=fun env=>(a env).bind fun x=>some (!x)
def sP(a b:VF):VF:=fun env=>(a env).bind fun| .bl x=>if x=true then b env else some (.bl false)|_=>none
def orD(a b:VF):VF:=fun env=>(a env).bind fun| .bl x=>if x=true then some (.bl true) else b env|_=>none
def w4(a:VF):VF:=fun env=>(a env).bind fun| .bl x=>some (.bl (!x))|_=>none
def gT:BF:=fun _=>some true
section
variable(K:W.Frag)(ns:List Str)
def EnvR(L:Addr→Prop)(env:Env)(σ:St)(H:Hp):Prop:=∀(i:Nat) (d:D),env[i]? =some (some d)→∃v,σ[i]? =some (some v)∧Rd K ns L H v d
def PuE(t:TE)(f:VF):Prop:=∀(L:Addr→Prop) (env:Env) (σ:St) (H:Hp) (Q:VK) (d:D),EnvR K ns L env σ H→f env=some d→(∀v H',Same H H'→Rd K ns (Nw L H) H' v d→Q v H')→t σ H Q
def PuF(t:TE)(f:VF):Prop:=∀(L:Addr→Prop) (env:Env) (σ:St) (H:Hp) (Q:VK) (d:D),EnvR K ns L env σ H→f env=some d→
 (∀p vs ds H',d= .lst ds→Same H H'→H p=none→H' p=some (.lst vs)→Rds K ns (fun a=>Nw L H a∧a≠p) H' vs ds→Q (.ref p) H')→t σ H Q
def PuA(n:Nat)(t:TA)(f:AF):Prop:=∀(L:Addr→Prop) (env:Env) (σ:St) (H:Hp) (Q:List V→Hp→Prop) (ds:List D),EnvR K ns L env σ H→f env=some ds→(∀vs H',ds.length=n→Same H H'→Rds K ns (Nw L H) H' vs ds→Q vs H')→t σ H Q
def PuT(t:TT)(f:BF):Prop:=∀(L:Addr→Prop) (env:Env) (σ:St) (H:Hp) (Q:Bool→Hp→Prop) (b:Bool),EnvR K ns L env σ H→f env=some b→(∀H',Same H H'→Q b H')→t σ H Q
def R2P(r:R2)(g:D→D→Option D):Prop:=∀(L:Addr→Prop) (H:Hp) (x y:V) (a b d:D) (Q:VK),Rd K ns L H x a→Rd K ns L H y b→g a b=some d→(∀v H',Same H H'→Rd K ns (Nw L H) H' v d→Q v H')→r x y H Q
def CaP(r:List V→Hp→VK→Prop)(g:List D→Option D):Prop:=∀(L:Addr→Prop) (H:Hp) (xs:List V) (as:List D) (d:D) (Q:VK),Rds K ns L H xs as→g as=some d→(∀v H',Same H H'→Rd K ns (Nw L H) H' v d→Q v H')→r xs H Q
def CaF(r:List V→Hp→VK→Prop)(g:List D→Option D):Prop:=∀(L:Addr→Prop) (H:Hp) (xs:List V) (as:List D) (d:D) (Q:VK),Rds K ns L H xs as→g as=some d→
 (∀p vs ds H',d= .lst ds→Same H H'→H p=none→H' p=some (.lst vs)→Rds K ns (fun a=>Nw L H a∧a≠p) H' vs ds→Q (.ref p) H')→r xs H Q
end
theorem sQ{β:Type}{z:D}{f:Bool→Option β}{y:β}(h:(match z with| .bl x=>f x|_=>none)=some y):∃x,z= .bl x∧f x=some y:=by
 cases z with
 |bl x=>exact⟨x,rfl,h⟩
 |_=>cases h
section
variable{K:W.Frag}{ns:List Str}
theorem Rd.blI{L:Addr→Prop}{H:Hp}{x:V}{b:Bool}(r:Rd K ns L H x (.bl b)):x= .bl b:=by cases r;rfl
theorem Rd.strI{L:Addr→Prop}{H:Hp}{x:V}{b:Str}(r:Rd K ns L H x (.str b)):x= .str b:=by cases r;rfl
theorem Rd.intI{L:Addr→Prop}{H:Hp}{x:V}{b:Int}(r:Rd K ns L H x (.int b)):x= .int b:=by cases r;rfl
theorem Rd.tupI{L:Addr→Prop}{H:Hp}{x:V}{ds:List D}(r:Rd K ns L H x (.tup ds)):∃a vs,x= .ref a∧H a=some (.tup vs)∧Rds K ns L H vs ds:=by
 cases r with
 |tup e r=>exact⟨_,_,rfl,e,r⟩
theorem Rd.lstI{L:Addr→Prop}{H:Hp}{x:V}{ds:List D}(r:Rd K ns L H x (.lst ds)):∃a vs,x= .ref a∧L a∧H a=some (.lst vs)∧Rds K ns L H vs ds:=by
 cases r with
 |lst l e r=>exact⟨_,_,rfl,l,e,r⟩
theorem EnvR.same{L:Addr→Prop}{env:Env}{σ:St}{H H':Hp}(h:EnvR K ns L env σ H)(S:Same H H'):EnvR K ns L env σ H':=fun i d e=>by
 obtain⟨v,q,r⟩:=h i d e
 exact⟨v,q,r.same S⟩
theorem EnvR.nw{L:Addr→Prop}{env:Env}{σ:St}{H H':Hp}(h:EnvR K ns L env σ H)(S:Same H H'):EnvR K ns (Nw L H) env σ H':=fun i d e=>by
 obtain⟨v,q,r⟩:=h i d e
 exact⟨v,q,r.nw.same S⟩
theorem bnd{α β:Type}{o:Option α}{g:α→Option β}{y:β}(h:o.bind g=some y):∃x,o=some x∧g x=some y:=by
 cases o with
 |none=>cases h
 |some x=>exact⟨x,rfl,h⟩
theorem PuF.pe{t:TE}{f:VF}(h:PuF K ns t f):PuE K ns t f:=fun L env σ H Q d he hf k=>
 h L env σ H Q d he hf fun p vs ds H' e S hn hp r=>by
   subst e
   exact k _ _ S (.lst (.inr hn) hp (r.mono (fun _ q=>q.1) .refl))
theorem af(i:Nat):PuE K ns (iX i) (vD i):=by
 intro L env σ H Q d he hf k
 have e:env[i]? =some (some d):=by
  unfold vD at hf
  cases q:env[i]? with
  |none=>rw[q] at hf;cases hf
  |some o=>rw[q] at hf;exact congrArg some hf
 obtain⟨v,q,r⟩:=he i d e
 exact⟨v,q,k v H (Same.refl _) r.nw⟩
theorem ak(i:Int):PuE K ns (tC (.int i)) (cD (.int i)):=fun L env σ H Q d he hf k=>by cases hf;exact k _ _ (Same.refl _) (.int i)
theorem pq(i:Bool):PuE K ns (tC (.bl i)) (cD (.bl i)):=fun L env σ H Q d he hf k=>by cases hf;exact k _ _ (Same.refl _) (.bl i)
theorem dD:PuE K ns (tC .non) (cD .non):=fun L env σ H Q d he hf k=>by cases hf;exact k _ _ (Same.refl _) .non
theorem ay(i:Str):PuE K ns (tC (.str i)) (cD (.str i)):=fun L env σ H Q d he hf k=>by cases hf;exact k _ _ (Same.refl _) (.str i)
theorem me{a:Addr}{d:D}(h:∀L H,Rd K ns L H (.ref a) d):PuE K ns (tC (.ref a)) (cD d):=fun L env σ H Q d' he hf k=>by cases hf;exact k _ _ (Same.refl _) (h _ _)
theorem ah{r:R2}{g:D→D→Option D}{ta tb:TE}{fa fb:VF}(hr:R2P K ns r g)(ha:PuE K ns ta fa)(hb:PuE K ns tb fb):PuE K ns (tOp r ta tb) (oD g fa fb):=by
 intro L env σ H Q d he hf k
 obtain⟨a,ea,hf⟩:=bnd hf
 obtain⟨b,eb,hf⟩:=bnd hf
 refine ha L env σ H _ a he ea fun x H1 S1 rx=>hb (Nw L H) env σ H1 _ b (he.nw S1) eb fun y H2 S2 ry=> ?_
 refine hr (Nw (Nw L H) H1) H2 x y a b d Q (rx.mono (fun _=> .inl) (.of S2)) ry hf fun v H3 S3 rv=>k v H3 (S1.trans (S2.trans S3)) (rv.mono (fun q hq=> ?_) .refl)
 exact nw2 S1 (nw2 S2 hq)
theorem ag:PuA K ns 0 iC ao:=fun L env σ H Q ds he hf k=>by cases hf;exact k _ _ rfl (Same.refl _) .nil
theorem ac{n:Nat}{ta:TE}{fa:VF}{tr:TA}{fr:AF}(ha:PuE K ns ta fa)(hr:PuA K ns n tr fr):PuA K ns (n+1) (bO ta tr) (ae fa fr):=by
 intro L env σ H Q ds he hf k
 obtain⟨a,ea,hf⟩:=bnd hf
 obtain⟨r,er,hf⟩:=bnd hf
 cases hf
 refine ha L env σ H _ a he ea fun x H1 S1 rx=>hr (Nw L H) env σ H1 _ r (he.nw S1) er fun ys H2 hl S2 ry=> ?_
 exact k _ H2 (congrArg Nat.succ hl) (S1.trans S2) (.cons (rx.mono (fun _ q=>q) (.of S2)) (ry.mono (fun q hq=>nw2 S1 hq) .refl))
theorem bP{n:Nat}{t:TA}{f:AF}(h:PuA K ns n t f)(hn:n≤sizeLine:=by decide):PuE K ns (vf t) (cu f):=by
 intro L env σ H Q d he hf k
 obtain⟨a,ea,hf⟩:=bnd hf
 cases hf
 refine h L env σ H _ a he ea fun vs H1 hl S1 rx=>⟨by rw[rx.len,hl];exact hn,fun p hp=> ?_⟩
 have N:=aV hp (.tup vs)
 exact k _ _ (S1.trans N) (.tup aI (rx.same N))
theorem bg{n:Nat}{t:TA}{f:AF}(h:PuA K ns n t f)(hn:n≤sizeLine:=by decide):PuF K ns (v3 t) (bF f):=by
 intro L env σ H Q d he hf k
 obtain⟨a,ea,hf⟩:=bnd hf
 cases hf
 refine h L env σ H _ a he ea fun vs H1 hl S1 rx=>⟨by rw[rx.len,hl];exact hn,fun p hp=> ?_⟩
 have N:=aV hp (.lst vs)
 refine k p vs a _ rfl (S1.trans N) (gG S1 hp) aI (rx.mono2 (fun a xs e q=>⟨q,fun z=> ?_⟩) (.of N))
 subst z
 rw[hp] at e
 cases e
theorem aK{n:Nat}{r:List V→Hp→VK→Prop}{g:List D→Option D}{t:TA}{f:AF}(hr:CaP K ns r g)(h:PuA K ns n t f):PuE K ns (tCB r t) (ap g f):=by
 intro L env σ H Q d he hf k
 obtain⟨a,ea,hf⟩:=bnd hf
 exact h L env σ H _ a he ea fun xs H1 _ S1 rx=>hr (Nw L H) H1 xs a d Q rx hf fun v H3 S3 rv=>k v H3 (S1.trans S3) (rv.mono (fun q hq=>nw2 S1 hq) .refl)
theorem nc{n:Nat}{r:List V→Hp→VK→Prop}{g:List D→Option D}{t:TA}{f:AF}(hr:CaF K ns r g)(h:PuA K ns n t f):PuF K ns (tCB r t) (ap g f):=by
 intro L env σ H Q d he hf k
 obtain⟨a,ea,hf⟩:=bnd hf
 exact h L env σ H _ a he ea fun xs H1 _ S1 rx=>hr (Nw L H) H1 xs a d Q rx hf fun p vs ds H3 e S3 hp h3 rv=>k p vs ds H3 e (S1.trans S3) (gG S1 hp) h3 (rv.mono (fun q hq=>⟨nw2 S1 hq.1,hq.2⟩) .refl)
theorem iZ{t:TE}{f:VF}(h:PuE K ns t f):PuT K ns (tB t) (bD f):=by
 intro L env σ H Q b he hf k
 obtain⟨d,ed,hf⟩:=bnd hf
 refine h L env σ H _ d he ed fun v H1 S1 r=> ?_
 obtain⟨c,rfl,hf⟩:=sQ hf
 cases hf
 exact⟨_,r.blI,k _ S1⟩
theorem aZ{t:TE}{f:VF}(h:PuE K ns t f):PuT K ns (vY t) (bD f):=iZ h
theorem w5{t:TE}{f:VF}(h:PuE K ns t f):PuT K ns (fun σ H Q=>t σ H fun x H'=>∃k,Bm K x H' k∧Q k H') (trD f):=by
 intro L env σ H Q b he hf k
 obtain⟨d,ed,hf⟩:=bnd hf
 refine h L env σ H _ d he ed fun v H1 S1 r=> ?_
 cases r with
 |non=>cases hf;exact⟨_,rfl,k _ S1⟩
 |bl b=>cases hf;exact⟨_,rfl,k _ S1⟩
 |int i=>cases hf;exact⟨_,rfl,k _ S1⟩
 |str x=>cases hf
 |tup e r=>cases hf;exact⟨_, .inr (.inl ⟨_,SqT.of e,by rw[iE r.len]⟩),k _ S1⟩
 |kt e r=>cases hf;exact⟨_, .inr (.inl ⟨_,SqT.kt e,by rw[iE r.len]⟩),k _ S1⟩
 |lst l e r=>cases hf;exact⟨_, .inl ⟨_,SqL.of e,by rw[iE r.len]⟩,k _ S1⟩
 |fz e r=>cases hf;exact⟨_, .inl ⟨_,SqL.fz e,by rw[iE r.len]⟩,k _ S1⟩
 |ob l e _ r=>cases hf
 |dk l e r=>cases hf
 |dt l e r=>cases hf
theorem jh:PuT K ns Dn gT:=fun L env σ H Q b he hf k=>by cases hf;exact k _ (Same.refl _)
theorem kL{t u:TT}{f g:BF}(h:PuT K ns t f)(h2:PuT K ns u g):PuT K ns (CU t u) (kK f g):=by
 intro L env σ H Q b he hf k
 obtain⟨x,ex,hf⟩:=bnd hf
 refine h L env σ H _ x he ex fun H1 S1=> ?_
 cases x with
 |false=>
  rw[if_neg Bool.false_ne_true] at hf ⊢
  cases hf
  exact k _ S1
 |true=>
  rw[if_pos rfl] at hf ⊢
  exact h2 _ env σ H1 _ b (he.nw S1) hf fun H2 S2=>k _ (S1.trans S2)
theorem eU{t u:TT}{f g:BF}(h:PuT K ns t f)(h2:PuT K ns u g):PuT K ns (tOr t u) (orB f g):=by
 intro L env σ H Q b he hf k
 obtain⟨x,ex,hf⟩:=bnd hf
 refine h L env σ H _ x he ex fun H1 S1=> ?_
 cases x with
 |true=>
  rw[if_pos rfl] at hf ⊢
  cases hf
  exact k _ S1
 |false=>
  rw[if_neg Bool.false_ne_true] at hf ⊢
  exact h2 _ env σ H1 _ b (he.nw S1) hf fun H2 S2=>k _ (S1.trans S2)
theorem gU{t:TT}{f:BF}(h:PuT K ns t f):PuT K ns (vP t) (j6 f):=by
 intro L env σ H Q b he hf k
 obtain⟨x,ex,hf⟩:=bnd hf
 cases hf
 exact h L env σ H _ x he ex fun H1 S1=>k _ S1
theorem BV{t:TE}{f:VF}(h:PuE K ns t f):PuE K ns (Ay t) (w4 f):=by
 intro L env σ H Q b he hf k
 obtain⟨x,ex,hf⟩:=bnd hf
 refine h L env σ H _ x he ex fun v H1 S1 r=> ?_
 obtain⟨c,rfl,hf⟩:=sQ hf
 cases hf
 exact⟨_,r.blI,k _ _ S1 (.bl _)⟩
theorem w6{t u:TE}{f g:VF}(h:PuE K ns t f)(h2:PuE K ns u g):PuE K ns (Ax t u) (sP f g):=by
 intro L env σ H Q b he hf k
 obtain⟨x,ex,hf⟩:=bnd hf
 refine h L env σ H _ x he ex fun v H1 S1 r=> ?_
 obtain⟨c,rfl,hf⟩:=sQ hf
 refine⟨c,r.blI, ?_⟩
 cases c with
 |false=>
  rw[if_neg Bool.false_ne_true]
  cases hf
  exact k _ _ S1 (.bl _)
 |true=>
  rw[if_pos rfl]
  exact h2 _ env σ H1 _ b (he.nw S1) hf fun v H2 S2 r=>k _ _ (S1.trans S2) (r.mono (fun q hq=>nw2 S1 hq) .refl)
end
end PD
namespace PD
open PySem L2
abbrev big:Int:=18446744073709551616
def ii(g:Int→Int→Option D):D→D→Option D
 | .int i, .int j=>g i j
 |_,_=>none
def aA:D→D→Option D
 | .int i, .int j=>some (.int (i+j))
 | .str a, .str b=>if a.length+b.length≤1000000 then some (.str (a++b)) else none
 | .lst a, .lst b=>if a.length+b.length≤1000000 then some (.lst (a++b)) else none
 | .tup a, .tup b=>if a.length+b.length≤1000000 then some (.tup (a++b)) else none
 |_,_=>none
def gH:D→D→Option D:=ii fun i j=>some (.int (i-j))
def i3:D→D→Option D
 | .int i, .int j=>if(-big<i∧i<big)∨(-big<j∧j<big) then some (.int (i*j)) else none
 | .str a, .int n=>if a.length≤16∧0≤n∧n≤1000000 then some (.str (Txt.mul a n)) else none
 |_,_=>none
def bz:D→D→Option D:=ii fun i j=>if 0<j∧j<1073741824 then some (.int (i/j)) else none
def DG:D→D→Option D:=ii fun i j=>if 0<j∧j<big then some (.int (i/j)) else none
def bB:D→D→Option D:=ii fun i j=>if 0<j then some (.int (i%j)) else none
def ltD:D→D→Option D:=ii fun i j=>some (.bl (decide (i<j)))
def leD:D→D→Option D:=ii fun i j=>some (.bl (decide (i≤j)))
def gtD:D→D→Option D:=ii fun i j=>some (.bl (decide (j<i)))
def geD:D→D→Option D:=ii fun i j=>some (.bl (decide (j≤i)))
mutual
def gW:D→Option PyData
 | .non=>some .none
 | .bl b=>some (.bool b)
 | .int i=>some (.int i)
 | .str x=>some (.str x)
 | .lst xs=>(toPys xs).map .list
 | .fz xs=>(toPys xs).map .list
 | .tup xs=>(toPys xs).map .tuple
 | .kt xs=>(toPys xs).map .tuple
 | .ob _ _=>none
 | .dk _ _=>none
 | .dt _ _=>none
def toPys:List D→Option (List PyData)
 |[]=>some []
 |d::r=>(gW d).bind fun x=>(toPys r).map (x:: ·)
end
def eqX(d e:D):Option Bool:=(gW d).bind fun x=>(gW e).bind fun y=>if SeqAt.shaped x=true∧SeqAt.shaped y=true then some (PyData.eqv x y) else none
def eqB:D→D→Option Bool
 | .int i, .int j=>some (decide (i=j))
 | .str i, .str j=>some (decide (i=j))
 | .bl i, .bl j=>some (decide (i=j))
 |d,e=>eqX d e
def eqD(d e:D):Option D:=(eqB d e).map .bl
def neD(d e:D):Option D:=(eqB d e).map fun b=> .bl (!b)
def D.isN:D→Bool
 | .non=>true
 |_=>false
def D.isB(b:Bool):D→Bool
 | .bl c=>decide (c=b)
 |_=>false
def isD:D→D→Option D
 |a, .non=>some (.bl a.isN)
 |a, .bl b=>some (.bl (a.isB b))
 |_,_=>none
def ul:D→D→Option D
 |a, .non=>some (.bl (!a.isN))
 |_,_=>none
def sV:D→Option V
 | .non=>some .non
 | .bl b=>some (.bl b)
 | .int i=>some (.int i)
 | .str x=>some (.str x)
 |_=>none
def sVs:List D→Option (List V)
 |[]=>some []
 |d::r=>(sV d).bind fun x=>(sVs r).map (x:: ·)
def ng:D→Option (List D)
 | .lst xs=>some xs
 | .fz xs=>some xs
 | .tup xs=>some xs
 | .kt xs=>some xs
 |_=>none
def inB(d:D)(e:D):Option Bool:=(sV d).bind fun x=>(ng e).bind fun xs=>(sVs xs).map fun vs=>inV x vs
def inD(d e:D):Option D:=(inB d e).map .bl
def ixD:D→D→Option D
 | .str z, .int i=>if z.length≤1000000 then(atI z.cps.toList i).map fun c=> .str ⟨#[c]⟩ else none
 |d, .int i=>(ng d).bind fun xs=>atI xs i
 |_,_=>none
def lJ(xs:List D)(lo hi:Option Int):List D:=(xs.drop (HT.sIx xs.length 0 lo)).take (HT.sIx xs.length xs.length hi-HT.sIx xs.length 0 lo)
def cO:D→Option Int→Option Int→Option D
 | .lst xs,lo,hi=>some (.lst (lJ xs lo hi))
 | .fz xs,lo,hi=>some (.lst (lJ xs lo hi))
 | .tup xs,lo,hi=>if HT.sIx xs.length 0 lo=0∧HT.sIx xs.length xs.length hi=xs.length then none else some (.tup (lJ xs lo hi))
 | .str z,lo,hi=>if z.length≤1000000 then some (.str (Txt.slice z lo hi)) else none
 |_,_,_=>none
abbrev OF:=Env→Option (Option Int)
def noO:OF:=fun _=>some none
def atO(f:VF):OF:=fun env=>(f env).bind fun| .int i=>some (some i)|_=>none
def slD(g:D→Option Int→Option Int→Option D)(f:VF)(lo hi:OF):VF:=fun env=>(f env).bind fun d=>(lo env).bind fun l=>(hi env).bind fun h=>g d l h
def Ek:D→Option D
 | .int i=>some (.int (-i))
 |_=>none
def bR:List D→Option D
 |[.str z]=>if z.length≤1000000 then some (.int z.length) else none
 |[d]=>(ng d).map fun xs=> .int xs.length
 |_=>none
def rq:List D→Option D
 |[.int i, .int j]=>some (.int (if j<i then j else i))
 |_=>none
def blS:List D→Option (List Bool)
 |[]=>some []
 | .bl b::r=>(blS r).map (b:: ·)
 |_=>none
def inS:List D→Option (List Int)
 |[]=>some []
 | .int b::r=>(inS r).map (b:: ·)
 |_=>none
def zx:List D→Option D
 |[.lst xs]=>(blS xs).map fun bs=> .bl (bs.all id)
 |_=>none
def qa:List D→Option D
 |[.lst xs]=>(inS xs).map fun bs=> .int bs.sum
 |_=>none
def nh:List D→Option D
 |[d]=>(ng d).map .lst
 |_=>none
def nj:List D→Option D
 |[.lst xs]=>some (.tup xs)
 |[.tup xs]=>some (.tup xs)
 |_=>none
def D.ty:D→String
 | .non=>"NoneType"| .bl _=>"bool"| .int _=>"int"| .str _=>"str"| .lst _=>"list"| .tup _=>"tuple"| .fz _=>"list"| .kt _=>""| .ob _ _=>"object"| .dk _ _=>"dict"| .dt _ _=>"dict"
def qb(t T:String):Bool:=t==T||(t=="bool"&&T=="int")
def isT(T:String):List D→Option D
 |[.kt _]=>none
 |[.fz _]=>none
 |[.dk _ _]=>none
 |[.dt _ _]=>none
 |[d]=>some (.bl (qb d.ty T))
 |_=>none
def oM(f:Fl):D→Option D
 | .ob c fs=>if f∈c.fs then fs.lookup f else none
 |_=>none
section
variable{K:W.Frag}{ns:List Str}
theorem lK{g:Int→Int→Option D}{L:Addr→Prop}{H:Hp}{x y:V}{a b d:D}(rx:Rd K ns L H x a)(ry:Rd K ns L H y b)(hf:ii g a b=some d):∃i j,x= .int i∧y= .int j∧g i j=some d:=by
 cases rx<;>first|(cases hf;done)|(cases ry<;>first|(cases hf;done)|skip)
 exact⟨_,_,rfl,rfl,hf⟩
theorem az:R2P K ns (uk K) aA:=by
 intro L H x y a b d Q rx ry hf k
 unfold aA at hf
 split at hf
 · cases hf
   exact .inl (.inl ⟨_,_,rx.intI,ry.intI,k _ _ (Same.refl _) (.int _)⟩)
 · split at hf
   · cases hf
     rename_i h
     exact .inl (.inr (.inl ⟨_,_,rx.strI,ry.strI,Nat.le_trans h (by decide),k _ _ (Same.refl _) (.str _)⟩))
   · cases hf
 · split at hf
   · cases hf
     rename_i h
     obtain⟨p1,v1,rfl,l1,e1,r1⟩:=rx.lstI
     obtain⟨p2,v2,rfl,l2,e2,r2⟩:=ry.lstI
     refine .inl (.inr (.inr ⟨_,_,_,_,rfl,rfl,e1,e2,by rw[r1.len,r2.len];exact Nat.le_trans h (by decide),fun p hp=>k _ _ (aV hp _) (.lst (.inr hp) aI ?_)⟩))
     exact(r1.append r2).mono (fun _=> .inl) (.of (aV hp _))
   · cases hf
 · split at hf
   · cases hf
     rename_i h
     obtain⟨p1,v1,rfl,e1,r1⟩:=rx.tupI
     obtain⟨p2,v2,rfl,e2,r2⟩:=ry.tupI
     have hl:∀{n m:Nat},n+m≤1000000→n+m≤sizeLine:=fun q=>Nat.le_trans q (by decide)
     cases r1 with
     |nil=>exact .inr (.inr ⟨_,_,_,rfl,rfl,SqT.of e1,SqT.of e2,k _ _ (Same.refl _) (Rd.tup e2 r2).nw⟩)
     |cons h1 t1=>
      have r1:=Rds.cons h1 t1
      refine .inr (.inl ⟨_,_,_,_,rfl,rfl,SqT.of e1,SqT.of e2,List.cons_ne_nil _ _,by rw[r1.len,r2.len];exact hl h,fun z=> ?_,fun _ p hp=>k _ _ (aV hp _) (.tup aI ((r1.append r2).mono (fun _=> .inl) (.of (aV hp _))))⟩)
      subst z
      cases r2
      rw[List.append_nil] at k
      exact k _ _ (Same.refl _) (Rd.tup e1 r1).nw
   · cases hf
 · cases hf
theorem zy{L:Addr→Prop}{H:Hp}{p:Addr}{vs:List V}{ds:List D}{o:HO}(r:Rds K ns L H vs ds)(hp:H p=none):Rds K ns (fun a=>Nw L H a∧a≠p) (upd H p o) vs ds:=
 r.mono2 (fun a xs e q=>⟨.inl q,aG e hp⟩) (.of (aV hp _))
theorem fP:R2P K ns Dt gH:=by
 intro L H x y a b d Q rx ry hf k
 obtain⟨i,j,rfl,rfl,hf⟩:=lK rx ry hf
 cases hf
 exact⟨_,_,rfl,rfl,k _ _ (Same.refl _) (.int _)⟩
theorem iO:R2P K ns AI i3:=by
 intro L H x y a b d Q rx ry hf k
 unfold i3 at hf
 split at hf
 · split at hf
   · cases hf
     rename_i h
     refine .inl ⟨_,_,rx.intI,ry.intI, ?_,k _ _ (Same.refl _) (.int _)⟩
     rcases h with h|h
     · exact IntMulOk.of_left (intBits_le_64 h.1 h.2)
     · exact IntMulOk.of_right (intBits_le_64 h.1 h.2)
   · cases hf
 · split at hf
   · cases hf
     rename_i h
     exact .inr (.inr ⟨_,_,rx.strI,ry.intI,h.1,h.2.1,h.2.2,k _ _ (Same.refl _) (.str _)⟩)
   · cases hf
 · cases hf
theorem bc:R2P K ns Du bz:=by
 intro L H x y a b d Q rx ry hf k
 obtain⟨i,j,rfl,rfl,hf⟩:=lK rx ry hf
 split at hf
 · cases hf
   rename_i h
   exact⟨_,_,rfl,rfl,h,k _ _ (Same.refl _) (.int _)⟩
 · cases hf
theorem be:R2P K ns Ef bB:=by
 intro L H x y a b d Q rx ry hf k
 obtain⟨i,j,rfl,rfl,hf⟩:=lK rx ry hf
 split at hf
 · cases hf
   rename_i h
   exact⟨_,_,rfl,rfl,h,k _ _ (Same.refl _) (.int _)⟩
 · cases hf
theorem kM:R2P K ns rLt ltD:=by
 intro L H x y a b d Q rx ry hf k
 obtain⟨i,j,rfl,rfl,hf⟩:=lK rx ry hf
 cases hf
 exact⟨_,_,rfl,rfl,k _ _ (Same.refl _) (.bl _)⟩
theorem jE:R2P K ns rGt gtD:=by
 intro L H x y a b d Q rx ry hf k
 obtain⟨i,j,rfl,rfl,hf⟩:=lK rx ry hf
 cases hf
 exact⟨_,_,rfl,rfl,k _ _ (Same.refl _) (.bl _)⟩
theorem nk:R2P K ns rGe geD:=by
 intro L H x y a b d Q rx ry hf k
 obtain⟨i,j,rfl,rfl,hf⟩:=lK rx ry hf
 cases hf
 exact⟨_,_,rfl,rfl,k _ _ (Same.refl _) (.bl _)⟩
theorem Rd.py{L:Addr→Prop}{H:Hp}{v:V}{d:D}{y:PyData}(r:Rd K ns L H v d):gW d=some y→RdD K H v y:=Rd.rec (motive_1:=fun v d _=>∀y,gW d=some y→RdD K H v y) (motive_2:=fun vs ds _=>∀ys,toPys ds=some ys→RdDs K H vs ys) (motive_3:=fun _ _ _=>True) (fun y e=>by cases e;exact .non) (fun b y e=>by cases e;exact .bl b) (fun i y e=>by cases e;exact .int i) (fun x y e=>by cases e;exact .str x) (fun h _ ih y e=>by rw[gW] at e;obtain⟨z,ez,rfl⟩:=Option.map_eq_some_iff.mp e;exact .tup (SqT.of h) (ih z ez)) (fun h _ ih y e=>by rw[gW] at e;obtain⟨z,ez,rfl⟩:=Option.map_eq_some_iff.mp e;exact .tup (SqT.kt h) (ih z ez)) (fun l h _ ih y e=>by rw[gW] at e;obtain⟨z,ez,rfl⟩:=Option.map_eq_some_iff.mp e;exact .lst (SqL.of h) (ih z ez)) (fun h _ ih y e=>by rw[gW] at e;obtain⟨z,ez,rfl⟩:=Option.map_eq_some_iff.mp e;exact .lst (SqL.fz h) (ih z ez)) (fun _ _ _ _ _ y e=>by rw[gW] at e;cases e) (fun _ _ _ _ y e=>by rw[gW] at e;cases e) (fun _ _ _ _ y e=>by rw[gW] at e;cases e) (fun ys e=>by cases e;exact .nil) (fun _ _ ih it ys e=>by rw[toPys] at e;obtain⟨x,ex,e⟩:=bnd e;obtain⟨z,ez,rfl⟩:=Option.map_eq_some_iff.mp e;exact .cons (ih x ex) (it z ez)) trivial (fun _ _ _ _ _=>trivial) r y
theorem BW{L:Addr→Prop}{H:Hp}{x y:V}{d e:D}{b:Bool}(rx:Rd K ns L H x d)(ry:Rd K ns L H y e)(h:eqX d e=some b):∃p q,RdD K H x p∧RdD K H y q∧SeqAt.shaped p=true∧SeqAt.shaped q=true∧PyData.eqv p q=b:=by
 obtain⟨p,ep,h⟩:=bnd h
 obtain⟨q,eq,h⟩:=bnd h
 split at h
 · rename_i hs
   exact⟨p,q,rx.py ep,ry.py eq,hs.1,hs.2,Option.some.inj h⟩
 · cases h
theorem w9{L:Addr→Prop}{H:Hp}{x y:V}{a b:D}{c:Bool}(rx:Rd K ns L H x a)(ry:Rd K ns L H y b)(hc:eqB a b=some c):(∃i j:Int,x= .int i∧y= .int j∧c=decide (i=j))∨(∃i j:Str,x= .str i∧y= .str j∧c=decide (i=j))∨(∃i j:Bool,x= .bl i∧y= .bl j∧c=decide (i=j))∨∃p q,RdD K H x p∧RdD K H y q∧SeqAt.shaped p=true∧SeqAt.shaped q=true∧PyData.eqv p q=c:=by
 unfold eqB at hc
 split at hc
 · cases hc
   exact .inl ⟨_,_,rx.intI,ry.intI,rfl⟩
 · cases hc
   exact .inr (.inl ⟨_,_,rx.strI,ry.strI,rfl⟩)
 · cases hc
   exact .inr (.inr (.inl ⟨_,_,rx.blI,ry.blI,rfl⟩))
 · exact .inr (.inr (.inr (BW rx ry hc)))
theorem um{i j:Str}:decide (V.str i=V.str j)=decide (i=j):=by simp
theorem sR{i j:Bool}:decide (V.bl i=V.bl j)=decide (i=j):=by simp
theorem d6:R2P K ns (BK K) eqD:=by
 intro L H x y a b d Q rx ry hf k
 obtain⟨c,hc,rfl⟩:=Option.map_eq_some_iff.mp hf
 rcases w9 rx ry hc with⟨i,j,rfl,rfl,rfl⟩|⟨i,j,rfl,rfl,rfl⟩|⟨i,j,rfl,rfl,rfl⟩|⟨p,q,r1,r2,s1,s2,rfl⟩
 · exact .inl ⟨_,_,rfl,rfl,k _ _ (Same.refl _) (.bl _)⟩
 · exact .inr (.inr (.inl ⟨rfl,by rw[um];exact k _ _ (Same.refl _) (.bl _)⟩))
 · exact .inr (.inr (.inl ⟨rfl,by rw[sR];exact k _ _ (Same.refl _) (.bl _)⟩))
 · exact .inr (.inr (.inr ⟨p,q,r1,r2,s1,s2,k _ _ (Same.refl _) (.bl _)⟩))
theorem uo:R2P K ns (BL K) neD:=by
 intro L H x y a b d Q rx ry hf k
 obtain⟨c,hc,rfl⟩:=Option.map_eq_some_iff.mp hf
 rcases w9 rx ry hc with⟨i,j,rfl,rfl,rfl⟩|⟨i,j,rfl,rfl,rfl⟩|⟨i,j,rfl,rfl,rfl⟩|⟨p,q,r1,r2,s1,s2,rfl⟩
 · exact .inl ⟨_,_,rfl,rfl,k _ _ (Same.refl _) (.bl _)⟩
 · exact .inr (.inl ⟨rfl,by rw[um];exact k _ _ (Same.refl _) (.bl _)⟩)
 · exact .inr (.inl ⟨rfl,by rw[sR];exact k _ _ (Same.refl _) (.bl _)⟩)
 · exact .inr (.inr ⟨p,q,r1,r2,s1,s2,k _ _ (Same.refl _) (.bl _)⟩)
theorem xa{L:Addr→Prop}{H:Hp}{x:V}{a:D}(r:Rd K ns L H x a):decide (x=V.non)=a.isN:=by cases r<;>rfl
theorem BX{L:Addr→Prop}{H:Hp}{x:V}{a:D}{b:Bool}(r:Rd K ns L H x a):decide (x=V.bl b)=a.isB b:=by cases r<;>first|rfl|exact sR
theorem mf:R2P K ns DF isD:=by
 intro L H x y a b d Q rx ry hf k
 unfold isD at hf
 split at hf
 · cases hf
   cases ry
   exact .inl ⟨rfl,by rw[xa rx];exact k _ _ (Same.refl _) (.bl _)⟩
 · cases hf
   exact .inr ⟨_,ry.blI,by rw[BX rx];exact k _ _ (Same.refl _) (.bl _)⟩
 · cases hf
theorem zA:R2P K ns Dv ul:=by
 intro L H x y a b d Q rx ry hf k
 unfold ul at hf
 split at hf
 · cases hf
   cases ry
   exact⟨rfl,by rw[xa rx];exact k _ _ (Same.refl _) (.bl _)⟩
 · cases hf
theorem AK{L:Addr→Prop}{H:Hp}{x v:V}{d:D}(r:Rd K ns L H x d)(h:sV d=some v):x=v∧flatV v=true:=by
 cases r<;>first|(cases h;done)|(cases h;exact⟨rfl,rfl⟩)
theorem xc{L:Addr→Prop}{H:Hp}:∀{xs vs:List V} {ds:List D},Rds K ns L H xs ds→sVs ds=some vs→xs=vs∧vs.all flatV=true
 |_,_,_, .nil,e=>by cases e;exact⟨rfl,rfl⟩
 |_,_,_, .cons h t,e=>by
  obtain⟨x,ex,e⟩:=bnd e
  obtain⟨z,ez,rfl⟩:=Option.map_eq_some_iff.mp e
  obtain⟨rfl,f1⟩:=AK h ex
  obtain⟨rfl,f2⟩:=xc t ez
  exact⟨rfl,by rw[List.all_cons,f1,f2];rfl⟩
theorem qc{L:Addr→Prop}{H:Hp}{x:V}{d:D}{xs:List D}(r:Rd K ns L H x d)(h:ng d=some xs):∃p vs,x= .ref p∧(SqL K H p vs∨SqT K H p vs)∧Rds K ns L H vs xs:=by
 cases r<;>first|(cases h;done)|skip
 · rename_i e r;cases h;exact⟨_,_,rfl, .inr (SqT.of e),r⟩
 · rename_i e r;cases h;exact⟨_,_,rfl, .inr (SqT.kt e),r⟩
 · rename_i l e r;cases h;exact⟨_,_,rfl, .inl (SqL.of e),r⟩
 · rename_i e r;cases h;exact⟨_,_,rfl, .inl (SqL.fz e),r⟩
theorem DH:R2P K ns (Dw K) inD:=by
 intro L H x y a b d Q rx ry hf k
 obtain⟨c,hc,rfl⟩:=Option.map_eq_some_iff.mp hf
 obtain⟨v,ev,hc⟩:=bnd hc
 obtain⟨xs,es,hc⟩:=bnd hc
 obtain⟨vs,evs,rfl⟩:=Option.map_eq_some_iff.mp hc
 obtain⟨p,us,rfl,sq,rs⟩:=qc ry es
 obtain⟨rfl,f1⟩:=AK rx ev
 obtain⟨rfl,f2⟩:=xc rs evs
 exact .inr ⟨p,us,rfl,sq,f1,f2,k _ _ (Same.refl _) (.bl _)⟩
theorem BY{α β:Type}{xs:List α}{ys:List β}{i:Int}{y:β}(hl:xs.length=ys.length)(h:atI ys i=some y):∃j:Nat,ys[j]? =some y∧atI xs i=xs[j]? :=by
 unfold atI at h ⊢
 obtain⟨j,ej,e⟩:=bnd h
 rw[hl,ej]
 exact⟨j,e,rfl⟩
theorem aP:R2P K ns (rIx K) ixD:=by
 intro L H x y a b d Q rx ry hf k
 unfold ixD at hf
 split at hf
 · cases rx;cases ry
   split at hf
   · rename_i z i h
     obtain⟨c,hc,rfl⟩:=Option.map_eq_some_iff.mp hf
     exact .inr (.inr ⟨_,_,c,rfl,rfl,Nat.le_trans h (by decide),hc,k _ _ (Same.refl _) (.str _)⟩)
   · cases hf
 · cases ry
   obtain⟨xs,es,hf⟩:=bnd hf
   obtain⟨p,vs,rfl,sq,rs⟩:=qc rx es
   obtain⟨j,ej,e⟩:=BY rs.len hf
   obtain⟨v,ev,rv⟩:=rs.get ej
   rcases sq with sq|sq
   · exact .inl ⟨p,vs,_,v,rfl,rfl,sq,e.trans ev,k _ _ (Same.refl _) rv.nw⟩
   · exact .inr (.inl ⟨p,vs,_,v,rfl,rfl,sq,e.trans ev,k _ _ (Same.refl _) rv.nw⟩)
 · cases hf
theorem d7{L:Addr→Prop}{H:Hp}{xs:List V}{d:D}(r:Rds K ns L H xs [d]):∃x,xs=[x]∧Rd K ns L H x d:=by
 cases r with
 |cons h t=>cases t;exact⟨_,rfl,h⟩
theorem nv{L:Addr→Prop}{H:Hp}{xs:List V}{d e:D}(r:Rds K ns L H xs [d,e]):∃x y,xs=[x,y]∧Rd K ns L H x d∧Rd K ns L H y e:=by
 cases r with
 |cons h t=>obtain⟨y,rfl,q⟩:=d7 t;exact⟨_,_,rfl,h,q⟩
theorem bC:CaP K ns (Eg K) bR:=by
 intro L H xs as d Q rx hf k
 unfold bR at hf
 split at hf
 · obtain⟨x,rfl,r⟩:=d7 rx
   cases r
   split at hf
   · rename_i h
     cases hf
     exact .inr ⟨_,rfl,Nat.le_trans h (by decide),k _ _ (Same.refl _) (.int _)⟩
   · cases hf
 · obtain⟨x,rfl,r⟩:=d7 rx
   obtain⟨ys,ey,rfl⟩:=Option.map_eq_some_iff.mp hf
   obtain⟨p,vs,rfl,sq,rs⟩:=qc r ey
   have:=k (.int vs.length) H (Same.refl _) (by rw[rs.len];exact .int _)
   exact .inl ⟨p,vs,rfl,sq,this⟩
 · cases hf
theorem uq:CaP K ns Dx rq:=by
 intro L H xs as d Q rx hf k
 unfold rq at hf
 split at hf
 · cases hf
   obtain⟨x,y,rfl,r,r'⟩:=nv rx
   cases r;cases r'
   exact⟨_,_,rfl,k _ _ (Same.refl _) (.int _)⟩
 · cases hf
theorem BZ{L:Addr→Prop}{H:Hp}{vs:List V}{ds:List D}{bs:List Bool}(r:Rds K ns L H vs ds)(e:blS ds=some bs):vs=bs.map V.bl:=by
 induction vs generalizing ds bs with
 |nil=>rw[r.nilL] at e;cases e;rfl
 |cons v vs ih=>
  obtain⟨d,es,rfl,h,t⟩:=r.consL
  cases h<;>first|(cases e;done)|skip
  obtain⟨z,ez,rfl⟩:=Option.map_eq_some_iff.mp e
  rw[ih t ez]
  rfl
theorem B0{L:Addr→Prop}{H:Hp}{vs:List V}{ds:List D}{bs:List Int}(r:Rds K ns L H vs ds)(e:inS ds=some bs):vs=bs.map V.int:=by
 induction vs generalizing ds bs with
 |nil=>rw[r.nilL] at e;cases e;rfl
 |cons v vs ih=>
  obtain⟨d,es,rfl,h,t⟩:=r.consL
  cases h<;>first|(cases e;done)|skip
  obtain⟨z,ez,rfl⟩:=Option.map_eq_some_iff.mp e
  rw[ih t ez]
  rfl
theorem B1:CaP K ns (Ei K) zx:=by
 intro L H xs as d Q rx hf k
 unfold zx at hf
 split at hf
 · obtain⟨x,rfl,r⟩:=d7 rx
   obtain⟨bs,eb,rfl⟩:=Option.map_eq_some_iff.mp hf
   cases r with
   |lst l e r=>exact⟨_,bs,rfl,by rw[←BZ r eb];exact SqL.of e,k _ _ (Same.refl _) (.bl _)⟩
 · cases hf
theorem sS:CaP K ns (DD K) qa:=by
 intro L H xs as d Q rx hf k
 unfold qa at hf
 split at hf
 · obtain⟨x,rfl,r⟩:=d7 rx
   obtain⟨bs,eb,rfl⟩:=Option.map_eq_some_iff.mp hf
   cases r with
   |lst l e r=>exact⟨_,bs,rfl,by rw[←B0 r eb];exact SqL.of e,k _ _ (Same.refl _) (.int _)⟩
 · cases hf
theorem qd:CaF K ns (zm K) nh:=by
 intro L H xs as d Q rx hf k
 unfold nh at hf
 split at hf
 · obtain⟨x,rfl,r⟩:=d7 rx
   obtain⟨ys,ey,rfl⟩:=Option.map_eq_some_iff.mp hf
   obtain⟨p,vs,rfl,sq,rs⟩:=qc r ey
   exact⟨p,vs,rfl,sq,fun l hl=>k _ _ _ _ rfl (aV hl _) hl aI (zy rs hl)⟩
 · cases hf
theorem rz:CaP K ns (wC K) nj:=by
 intro L H xs as d Q rx hf k
 unfold nj at hf
 split at hf
 · cases hf
   obtain⟨x,rfl,r⟩:=d7 rx
   cases r with
   |lst l e r=>exact⟨_,_,rfl, .inl ⟨SqL.of e,fun t ht=>k _ _ (aV ht _) (.tup aI (r.mono (fun _=> .inl) (.of (aV ht _))))⟩⟩
 · cases hf
   obtain⟨x,rfl,r⟩:=d7 rx
   cases r with
   |tup e r=>exact⟨_,_,rfl, .inr ⟨SqT.of e,k _ _ (Same.refl _) (Rd.tup e r).nw⟩⟩
 · cases hf
def PuO(K:W.Frag)(ns:List Str)(t:TO)(f:OF):Prop:=∀(L:Addr→Prop) (env:Env) (σ:St) (H:Hp) (Q:Option Int→Hp→Prop) (o:Option Int),EnvR K ns L env σ H→f env=some o→(∀H',Same H H'→Q o H')→t σ H Q
theorem im:PuO K ns t6 noO:=fun L env σ H Q o he hf k=>by cases hf;exact k _ (Same.refl _)
theorem gI{t:TE}{f:VF}(h:PuE K ns t f):PuO K ns (AB t) (atO f):=by
 intro L env σ H Q o he hf k
 obtain⟨d,ed,hf⟩:=bnd hf
 refine h L env σ H _ d he ed fun v H1 S1 r=> ?_
 cases r<;>first|(cases hf;done)|skip
 cases hf
 exact⟨_,rfl,k _ S1⟩
theorem qf{L:Addr→Prop}{H:Hp}{vs:List V}{ds:List D}(r:Rds K ns L H vs ds)(lo hi:Option Int):Rds K ns L H (rj vs lo hi) (lJ ds lo hi):=by
 unfold rj lJ
 rw[r.len]
 exact(r.drop _).take _
theorem gQ{t:TE}{f:VF}{tl th:TO}{fl fh:OF}(h:PuE K ns t f)(hl:PuO K ns tl fl)(hh:PuO K ns th fh):PuE K ns (tSl (Dp K) t tl th) (slD cO f fl fh):=by
 intro L env σ H Q d he hf k
 obtain⟨a,ea,hf⟩:=bnd hf
 obtain⟨lo,el,hf⟩:=bnd hf
 obtain⟨hi,ehi,hf⟩:=bnd hf
 refine h L env σ H _ a he ea fun x H1 S1 rx=>hl (Nw L H) env σ H1 _ lo (he.nw S1) el fun H2 S2=>hh (Nw L H) env σ H2 _ hi (he.nw (S1.trans S2)) ehi fun H3 S3=> ?_
 have S13:=S2.trans S3
 have rx3:=rx.same S13
 have SS:=S1.trans S13
 have fin:∀{p:Addr} {o:HO} {a:Addr},H3 p=none→Nw (Nw L H) H3 a→Nw L H a:=fun {p o a} _ q=>nw2 SS q
 cases rx3 with
 |str z=>
  dsimp only[cO] at hf
  split at hf
  case isTrue hq=>
   cases hf
   exact .inr (.inr ⟨_,rfl,Nat.le_trans hq (by decide),k _ _ SS (.str _)⟩)
  case isFalse=>cases hf
 |tup e r=>
  dsimp only[cO] at hf
  split at hf
  case isTrue=>cases hf
  case isFalse hn=>
   cases hf
   refine .inr (.inl ⟨_,_,rfl,SqT.of e,by rw[r.len];exact hn,fun p hp=>k _ _ (SS.trans (aV hp _)) (.tup aI ((qf r _ _).mono (fun _ q=>q) (.of (aV hp _))))⟩)
 |lst l e r=>
  cases hf
  exact .inl ⟨_,_,rfl,SqL.of e,fun p hp=>k _ _ (SS.trans (aV hp _)) (.lst (.inr (gG SS hp)) aI ((qf r _ _).mono (fun _ q=>q) (.of (aV hp _))))⟩
 |fz e r=>
  cases hf
  exact .inl ⟨_,_,rfl,SqL.fz e,fun p hp=>k _ _ (SS.trans (aV hp _)) (.lst (.inr (gG SS hp)) aI ((qf r _ _).mono (fun _ q=>q) (.of (aV hp _))))⟩
 |_=>cases hf
theorem ur{L:Addr→Prop}{H:Hp}:∀{gs:List (Str×V)} {fs:List (Fl×D)} {f:Fl} {d:D},Rfs K ns L H gs fs→fs.lookup f=some d→∃v,gs.lookup f.s=some v∧Rd K ns L H v d
 |_,_,_,_, .nil,e=>by cases e
 |_,_,f,d, .cons (f:=g) h r t,e=>by
  rw[List.lookup_cons] at e
  by_cases q:f=g
  · subst q
    rw[beq_self_eq_true] at e
    cases e
    exact⟨_,h,r⟩
  · rw[beq_eq_false_iff_ne.mpr q] at e
    exact ur t e
theorem xf{t:TE}{h:VF}(f:Fl)(p:PuE K ns t h):PuE K ns (Bo K t f.s) (uD (oM f) h):=by
 intro L env σ H Q d he hf k
 obtain⟨a,ea,hf⟩:=bnd hf
 refine p L env σ H _ a he ea fun x H1 S1 rx=> ?_
 cases rx<;>first|(cases hf;done)|skip
 rename_i l e c r
 dsimp only[oM] at hf
 split at hf
 · rename_i hm
   obtain⟨v,ev,rv⟩:=ur r hf
   exact⟨_,_,_,_,v,rfl,e,c.cls,c.na _ (List.mem_map_of_mem hm),ev,k _ _ S1 rv⟩
 · cases hf
end
end PD
namespace PD
open PySem L2
section
variable(K:W.Frag)(ns:List Str)
def ItP(J:It)(ds:List D)(L:Addr→Prop)(H1:Hp):Prop:=∀(L2:Addr→Prop) (i:Nat) (H:Hp),(∀a o,H1 a=some o→L a→L2 a)→KeepL L2 H1 H→
 (∀d,ds[i]? =some d→J.go i H∧∀x H',J.yld i H x H'→Same H H'∧Rd K ns (Nw L2 H) H' x d)∧(ds.length=i→J.stop i H)
def PuI(wi:TI)(f:AF):Prop:=∀(L:Addr→Prop) (env:Env) (σ:St) (H:Hp) (R:It→Hp→Prop) (ds:List D),EnvR K ns L env σ H→f env=some ds→(∀J H',Same H H'→ItP K ns J ds (Nw L H) H'→R J H')→wi σ H R
end
def iP:D→Option (List D)
 | .lst xs=>some xs
 | .fz xs=>some xs
 | .tup xs=>some xs
 | .kt xs=>some xs
 | .str z=>some (z.cps.toList.map fun c=> .str ⟨#[c]⟩)
 |_=>none
def itD(f:VF):AF:=fun env=>(f env).bind iP
def jF:List D→Option (List D)
 |[.int j]=>if-1000000<j∧j<1000000 then some ((List.range j.toNat).map fun(i:Nat)=>D.int (0+(i:Int))) else none
 |_=>none
def iaD(g:List D→Option (List D))(f:AF):AF:=fun env=>(f env).bind g
def AL(xs:List D):List D:=xs.mapIdx fun i d=> .tup [.int i,d]
def DI:List D→Option (List D)
 |[.lst xs]=>some (AL xs)
 |_=>none
def kv(xs ys:List D):List D:=List.zipWith (fun a b=>D.tup [a,b]) xs ys
def El:List D→Option (List D)
 |[.lst xs, .lst ys]=>some (kv xs ys)
 |_=>none
def zB:List D→Option (List D)
 |[.lst xs, .lst ys]=>some (kv xs ys)
 |[.tup xs, .tup ys]=>if xs.length≤ys.length then some (kv xs ys) else none
 |_=>none
def ny(fc:BF)(fe:VF)(caps:Env):List D→Option (List D)
 |[]=>some []
 |x::xs=>(fc (some x::caps)).bind fun b=>if b=true then(fe (some x::caps)).bind fun y=>(ny fc fe caps xs).map (y:: ·) else ny fc fe caps xs
def ke(cap:List Nat)(env:Env):Env:=cap.map fun i=>(env[i]?).join
def de(fi:AF)(fc:BF)(fe:VF)(cap:List Nat):VF:=fun env=>(fi env).bind fun ds=>if ds.length<1000000 then(ny fc fe (ke cap env) ds).map .lst else none
section
variable{K:W.Frag}{ns:List Str}
theorem zC{L:Addr→Prop}{H1:Hp}{a:Addr}{vs:List V}{ds:List D}(l:L a)(e:H1 a=some (.lst vs))(r:Rds K ns L H1 vs ds):ItP K ns (Itl K a) ds L H1:=by
 intro L2 i H hL hk
 have l2:=hL _ _ e l
 have e2:=hk _ _ e fun _=>l2
 have r2:=r.mono2 hL (H':=H) (fun b o eb hb=>hk b o eb fun z=>hL _ _ eb (hb z))
 refine⟨fun d hd=> ?_,fun hi=>⟨vs,SqL.of e2,by rw[r.len];omega⟩⟩
 obtain⟨v,ev,rv⟩:=r2.get hd
 refine⟨⟨vs,v,SqL.of e2,ev⟩,fun x H' y=> ?_⟩
 obtain⟨rfl,y⟩:=y
 have:=y _ (SqL.of e2)
 rw[ev] at this
 cases this
 exact⟨Same.refl _,rv.nw⟩
theorem DJ{L:Addr→Prop}{H1:Hp}{a:Addr}{vs:List V}{ds:List D}(e:FZ K H1 a vs)(r:Rds K ns L H1 vs ds):ItP K ns (Itl K a) ds L H1:=by
 intro L2 i H hL hk
 have e2:=e.mono hk
 have r2:=r.mono2 hL (H':=H) (fun b o eb hb=>hk b o eb fun z=>hL _ _ eb (hb z))
 refine⟨fun d hd=> ?_,fun hi=>⟨vs,SqL.fz e2,by rw[r.len];omega⟩⟩
 obtain⟨v,ev,rv⟩:=r2.get hd
 refine⟨⟨vs,v,SqL.fz e2,ev⟩,fun x H' y=> ?_⟩
 obtain⟨rfl,y⟩:=y
 have:=y _ (SqL.fz e2)
 rw[ev] at this
 cases this
 exact⟨Same.refl _,rv.nw⟩
theorem xg{L:Addr→Prop}{H1:Hp}{a:Addr}{vs:List V}{ds:List D}(e:∀H,KeepL (fun _=>True) H1 H→SqT K H a vs)(e':∀L2 H,KeepL L2 H1 H→SqT K H a vs)(r:Rds K ns L H1 vs ds):ItP K ns (Itt K a) ds L H1:=by
 intro L2 i H hL hk
 have e2:=e' L2 H hk
 have r2:=r.mono2 hL (H':=H) (fun b o eb hb=>hk b o eb fun z=>hL _ _ eb (hb z))
 refine⟨fun d hd=> ?_,fun hi=>⟨vs,e2,by rw[r.len];omega⟩⟩
 obtain⟨v,ev,rv⟩:=r2.get hd
 refine⟨⟨vs,v,e2,ev⟩,fun x H' y=> ?_⟩
 obtain⟨rfl,y⟩:=y
 have:=y _ e2
 rw[ev] at this
 cases this
 exact⟨Same.refl _,rv.nw⟩
theorem B2{L:Addr→Prop}{H1:Hp}{z:Str}:ItP K ns (Its z) (z.cps.toList.map fun c=> .str ⟨#[c]⟩) L H1:=by
 intro L2 i H hL hk
 refine⟨fun d hd=> ?_,fun hi=>by show i=z.cps.size;rw[←hi,List.length_map,Array.length_toList]⟩
 rw[List.getElem?_map] at hd
 obtain⟨c,hc,rfl⟩:=Option.map_eq_some_iff.mp hd
 have hl:=(List.getElem?_eq_some_iff.mp hc).1
 refine⟨by show i<z.cps.size;simpa using hl,fun x H' y=> ?_⟩
 obtain⟨rfl,c',hc',rfl⟩:=y
 rw[hc] at hc'
 cases hc'
 exact⟨Same.refl _, .str _⟩
theorem iQ{t:TE}{f:VF}(h:PuE K ns t f):PuI K ns (fun σ H R=>Az K t σ H R∨(CV K t σ H R∨Dq t σ H R)) (itD f):=by
 intro L env σ H R ds he hf k
 obtain⟨d,ed,hf⟩:=bnd hf
 cases d<;>first|(cases hf;done)|skip
 · refine .inr (.inr (h L env σ H _ _ he ed fun v H1 S1 r=> ?_))
   cases hf
   cases r
   exact⟨_,rfl,k _ _ S1 B2⟩
 · refine .inr (.inl (h L env σ H _ _ he ed fun v H1 S1 r=> ?_))
   cases hf
   cases r with
   |tup e r=>exact⟨_,rfl,⟨_,SqT.of e⟩,k _ _ S1 (xg (fun H hk=>SqT.of (hk _ _ e fun z=>by cases z)) (fun L2 H hk=>SqT.of (hk _ _ e fun z=>by cases z)) r)⟩
 · refine .inr (.inl (h L env σ H _ _ he ed fun v H1 S1 r=> ?_))
   cases hf
   cases r with
   |kt e r=>exact⟨_,rfl,⟨_,SqT.kt e⟩,k _ _ S1 (xg (fun H hk=>SqT.kt e) (fun L2 H hk=>SqT.kt e) r)⟩
 · refine .inl (h L env σ H _ _ he ed fun v H1 S1 r=> ?_)
   cases hf
   cases r with
   |lst l e r=>exact⟨_,rfl,⟨_,SqL.of e⟩,k _ _ S1 (zC l e r)⟩
 · refine .inl (h L env σ H _ _ he ed fun v H1 S1 r=> ?_)
   cases hf
   cases r with
   |fz e r=>exact⟨_,rfl,⟨_,SqL.fz e⟩,k _ _ S1 (DJ e r)⟩
theorem B3{L:Addr→Prop}{H1:Hp}{lo:Int}{n:Nat}:ItP K ns (Itr lo n) ((List.range n).map fun(k:Nat)=>D.int (lo+(k:Int))) L H1:=by
 intro L2 i H hL hk
 refine⟨fun d hd=> ?_,fun hi=>by show n≤i;rw[←hi];simp⟩
 rw[List.getElem?_map] at hd
 obtain⟨c,hc,rfl⟩:=Option.map_eq_some_iff.mp hd
 obtain⟨hl,hc⟩:=List.getElem?_eq_some_iff.mp hc
 rw[List.getElem_range] at hc
 subst hc
 refine⟨by show i<n;simpa using hl,fun x H' y=> ?_⟩
 obtain⟨rfl,rfl⟩:=y
 exact⟨Same.refl _, .int _⟩
theorem mx{n:Nat}{t:TA}{f:AF}(h:PuA K ns n t f):PuI K ns (AA t) (iaD jF f):=by
 intro L env σ H R ds he hf k
 obtain⟨as,ea,hf⟩:=bnd hf
 refine h L env σ H _ as he ea fun vs H1 _ S1 r=> ?_
 unfold jF at hf
 split at hf
 · obtain⟨x,rfl,q⟩:=d7 r
   cases q
   split at hf
   · rename_i hb
     cases hf
     exact⟨_,rfl,by have:=hb.1;omega,by have:=hb.2;omega,k _ _ S1 B3⟩
   · cases hf
 · cases hf
theorem zD{n:Nat}{t:TA}{f:AF}(h:PuA K ns n t f):PuI K ns (fun σ H R=>BI K t σ H R∨wV K t σ H R) (iaD zB f):=by
 intro L env σ H R ds he hf k
 obtain⟨as,ea,hf⟩:=bnd hf
 unfold zB at hf
 split at hf
 · rename_i xs ys
   refine .inl (h L env σ H _ _ he ea fun vs H1 _ S1 r=> ?_)
   obtain⟨x,y,rfl,q,q'⟩:=nv r
   clear r
   cases hf
   cases q with
   | @lst p us _ l e r=>
     cases q' with
     | @lst p' us' _ l' e' r'=>
       refine⟨_,_,_,_,rfl,SqL.of e,SqL.of e',k _ _ S1 ?_⟩
       intro L2 i H hL hk
       have l2:=hL _ _ e l
       have e2:=hk _ _ e fun _=>l2
       have l2':=hL _ _ e' l'
       have e2':=hk _ _ e' fun _=>l2'
       have kk:KeepL _ H1 H:=fun b o eb hb=>hk b o eb fun z=>hL _ _ eb (hb z)
       have r2:=r.mono2 hL kk
       have r2':=r'.mono2 hL kk
       refine⟨fun d hd=> ?_,fun hi=>⟨us,us',SqL.of e2,SqL.of e2',by unfold kv at hi;rw[List.length_zipWith] at hi;rw[r.len,r'.len];omega⟩⟩
       unfold kv at hd
       rw[List.getElem?_zipWith] at hd
       cases hx:xs[i]? with
       |none=>rw[hx] at hd;cases hd
       |some c=>
        cases hy:ys[i]? with
        |none=>rw[hx,hy] at hd;cases hd
        |some c'=>
         rw[hx,hy] at hd
         cases hd
         obtain⟨v,ev,rv⟩:=r2.get hx
         obtain⟨v',ev',rv'⟩:=r2'.get hy
         refine⟨⟨us,us',SqL.of e2,SqL.of e2',(List.getElem?_eq_some_iff.mp ev).1,(List.getElem?_eq_some_iff.mp ev').1⟩,fun x H' y=> ?_⟩
         obtain⟨T,a,b,hT,rfl,rfl,y,y'⟩:=y
         have h1:=y _ (SqL.of e2)
         have h2:=y' _ (SqL.of e2')
         rw[ev] at h1
         rw[ev'] at h2
         cases h1
         cases h2
         have N:=aV hT (.tup [v,v'])
         exact⟨N, .tup aI (.cons (rv.nw.same N) (.cons (rv'.nw.same N) .nil))⟩
 · rename_i xs ys
   refine .inr (h L env σ H _ _ he ea fun vs H1 _ S1 r=> ?_)
   obtain⟨x,y,rfl,q,q'⟩:=nv r
   clear r
   split at hf
   case isFalse=>cases hf
   rename_i hzl
   cases hf
   cases q with
   | @tup p us _ e r=>
     cases q' with
     | @tup p' us' _ e' r'=>
       refine⟨_,_,_,_,rfl,SqT.of e,SqT.of e',k _ _ S1 ?_⟩
       intro L2 i H hL hk
       have e2:=hk _ _ e fun z=>by cases z
       have e2':=hk _ _ e' fun z=>by cases z
       have kk:KeepL _ H1 H:=fun b o eb hb=>hk b o eb fun z=>hL _ _ eb (hb z)
       have r2:=r.mono2 hL kk
       have r2':=r'.mono2 hL kk
       refine⟨fun d hd=> ?_,fun hi=> ?_⟩
       · unfold kv at hd
         rw[List.getElem?_zipWith] at hd
         cases hx:xs[i]? with
         |none=>rw[hx] at hd;cases hd
         |some c=>
          cases hy:ys[i]? with
          |none=>rw[hx,hy] at hd;cases hd
          |some c'=>
           rw[hx,hy] at hd
           cases hd
           obtain⟨v,ev,rv⟩:=r2.get hx
           obtain⟨v',ev',rv'⟩:=r2'.get hy
           refine⟨⟨us,us',SqT.of e2,SqT.of e2',(List.getElem?_eq_some_iff.mp ev).1,(List.getElem?_eq_some_iff.mp ev').1⟩,fun x H' y=> ?_⟩
           obtain⟨T,a,b,hT,rfl,rfl,y,y'⟩:=y
           have h1:=y _ (SqT.of e2)
           have h2:=y' _ (SqT.of e2')
           rw[ev] at h1
           rw[ev'] at h2
           cases h1
           cases h2
           have N:=aV hT (.tup [v,v'])
           exact⟨N, .tup aI (.cons (rv.nw.same N) (.cons (rv'.nw.same N) .nil))⟩
       · exact⟨us,us',SqT.of e2,SqT.of e2',by unfold kv at hi;rw[List.length_zipWith] at hi;rw[r.len];omega⟩
 · cases hf
theorem ut{L:Addr→Prop}{env:Env}{σ:St}{H:Hp}{x:V}{d:D}{cap:List Nat}(he:EnvR K ns L env σ H)(hx:Rd K ns L H x d):EnvR K ns L (some d::ke cap env) (mU cap (some x) σ) H:=by
 intro i d' e
 cases i with
 |zero=>cases e;exact⟨x,rfl,hx⟩
 |succ i=>
  have e':(ke cap env)[i]? =some (some d'):=e
  unfold ke at e'
  rw[List.getElem?_map] at e'
  obtain⟨c,hc,e'⟩:=Option.map_eq_some_iff.mp e'
  cases q:env[c]? with
  |none=>rw[q] at e';cases e'
  |some o=>
   rw[q] at e'
   have e2:o=some d':=e'
   subst e2
   obtain⟨v,hv,r⟩:=he c d' q
   refine⟨v, ?_,r⟩
   show (cap.map fun i=>(σ[i]?).join)[i]? =_
   rw[List.getElem?_map,hc]
   show some ((σ[c]?).join)=_
   rw[hv]
   rfl
theorem EnvR.mono2{L L':Addr→Prop}{env:Env}{σ:St}{H H':Hp}(h:EnvR K ns L env σ H)(hL:∀a o,H a=some o→L a→L' a)(hk:KeepL L H H'):EnvR K ns L' env σ H':=fun i d e=>by
 obtain⟨v,q,r⟩:=h i d e
 exact⟨v,q,r.mono2 hL hk⟩
abbrev Lx(L:Addr→Prop)(H:Hp)(acc:Addr):Addr→Prop:=fun a=>Nw L H a∧a≠acc
theorem iF{wi:TI}{tc:TT}{te:TE}{fi:AF}{fc:BF}{fe:VF}{cap:List Nat}(hi:PuI K ns wi fi)(hc:PuT K ns tc fc)(he:PuE K ns te fe):PuF K ns (wp wi tc te cap) (de fi fc fe cap):=by
 intro L env σ H Q d hE hf k
 obtain⟨ds,ei,hf⟩:=bnd hf
 split at hf
 case isFalse=>cases hf
 rename_i hn
 obtain⟨out,eo,rfl⟩:=Option.map_eq_some_iff.mp hf
 refine hi L env σ H _ ds hE ei fun J H1 S1 it=> ?_
 intro acc ha
 have hacc:H acc=none:=gG S1 ha
 have E1:EnvR K ns (Lx L H acc) env σ H1:=(hE.mono2 (L':=Lx L H acc) (fun a o e l=>⟨.inl l,aG e hacc⟩) .refl).same S1
 refine⟨fun i m H2=>m=ds.length-i∧i≤ds.length∧Same H1 H2∧∃ys dn rest,H2 acc=some (.lst ys)∧Rds K ns (Lx L H acc) H2 ys dn∧ys.length≤i∧ny fc fe (ke cap env) (ds.drop i)=some rest∧dn++rest=out,⟨_,rfl,Nat.zero_le _,aV ha _,[],[],out,aI, .nil,Nat.le_refl _,by rw[List.drop_zero];exact eo,rfl⟩, ?_⟩
 rintro i m H2 ⟨rfl,hle,S2,ys,dn,rest,ea,rd,hy,ec,ed⟩
 obtain⟨go,stop⟩:=it (Lx L H acc) i H2 (fun a o e l=>⟨l,aG e ha⟩) (.of S2)
 by_cases hlt:i<ds.length
 · obtain⟨g,yl⟩:=go ds[i] (List.getElem?_eq_getElem hlt)
   refine .inr ⟨g,fun x H3 y=> ?_⟩
   obtain⟨S3,rx⟩:=yl x H3 y
   have ea3:=S3 _ _ ea
   have E3:EnvR K ns (Lx L H acc) (some ds[i]::ke cap env) (mU cap (some x) σ) H3:=ut ((E1.same S2).same S3) (rx.mono2 (fun a o e l=>by
    rcases l with l|l
    · exact l
    · exact⟨.inr (gG (S1.trans S2) l),fun z=>by rw[z,ea] at l;cases l⟩) .refl)
   rw[List.drop_eq_getElem_cons hlt] at ec
   obtain⟨b,eb,ec⟩:=bnd ec
   refine hc _ _ _ _ _ b E3 eb fun H4 S4=> ?_
   have ea4:=S4 _ _ ea3
   cases b with
   |false=>
    rw[if_neg Bool.false_ne_true] at ec ⊢
    exact⟨ds.length-(i+1),by omega,rfl,hlt,S2.trans (S3.trans S4),ys,dn,rest,ea4,rd.same (S3.trans S4),by omega,ec,ed⟩
   |true=>
    rw[if_pos rfl] at ec ⊢
    obtain⟨y,ey,ec⟩:=bnd ec
    obtain⟨rest',er,rfl⟩:=Option.map_eq_some_iff.mp ec
    refine he _ _ _ _ _ y (E3.same S4) ey fun v H5 S5 rv=> ?_
    have ea5:=S5 _ _ ea4
    have SS:=S3.trans (S4.trans S5)
    have up:∀{L3:Addr→Prop},¬L3 acc→KeepL L3 H5 (upd H5 acc (.lst (ys++[v]))):=fun {L3} hl a o e hm=>by
     by_cases z:a=acc
     · subst z
       rw[ea5] at e
       cases e
       exact absurd (hm rfl) hl
     · rw[aJ z];exact e
    have rv2:Rd K ns (Lx L H acc) H5 v y:=rv.mono2 (fun a o e l=>by
     rcases l with l|l
     · exact l
     · exact⟨.inr (gG (S1.trans (S2.trans (S3.trans S4))) l),fun z=>by rw[z,ea4] at l;cases l⟩) .refl
    refine⟨ys,ea5,Nat.lt_of_le_of_lt hy (Nat.lt_trans hlt (Nat.lt_trans hn (by decide))),ds.length-(i+1),by omega,rfl,hlt,fun a o e=> ?_,ys++[v],dn++[y],rest',aI, ?_, ?_,er,by rw[←ed];simp⟩
    · rw[aJ (aG e ha)]
      exact SS _ _ (S2 _ _ e)
    · exact((rd.same SS).append (.cons rv2 .nil)).mono (fun _ q=>q) (up fun q=>q.2 rfl)
    · rw[List.length_append,List.length_singleton];omega
 · have hi':ds.length=i:=by omega
   refine .inl ⟨stop hi', ?_⟩
   rw[List.drop_of_length_le (by omega)] at ec
   cases ec
   rw[List.append_nil] at ed
   subst ed
   exact k acc ys dn H2 rfl (S1.trans S2) hacc ea rd
end
end PD
namespace PD
open PySem L2
inductive Fr where
 |no|yes|pr|nw
inductive Out where
 |nx (e:Env)|rt (d:D)|bk (e:Env)|ct (e:Env)
abbrev SF:=Env→Option Out
def aE(F G:SF):SF:=fun env=>(F env).bind fun| .nx e=>G e|o=>some o
def nxS:SF:=fun env=>some (.nx env)
def bq(f:VF):SF:=fun env=>(f env).bind fun d=>some (.rt d)
def ifS(c:BF)(F G:SF):SF:=fun env=>(c env).bind fun x=>if x=true then F env else G env
def eT(fl:List Bool)(env:Env):Env:=List.zipWith (fun b o=>if b=true then none else o) fl env
abbrev mk(fl:List Bool){α:Type}(f:Env→α):Env→α:=fun env=>f (eT fl env)
def aU(i:Nat)(f:VF):SF:=fun env=>(f env).bind fun d=>some (.nx (env.set i (some d)))
def eX(i:Nat)(env:Env):Option (List D):=(env[i]?).join.bind fun| .lst xs=>some xs|_=>none
def j7(i:Nat)(f:VF):SF:=fun env=>(f env).bind fun d=>(eX i env).bind fun xs=>if xs.length<1000000 then some (.nx (env.set i (some (.lst (xs++[d]))))) else none
def oO(i:Nat)(f:VF):SF:=fun env=>(f env).bind fun d=>if d.flat=true then(eX i env).bind fun xs=>if xs.length<1000000 then some (.nx (env.set i (some (.lst (xs++[d]))))) else none else none
def Em(i:Nat):SF:=fun env=>(eX i env).bind fun xs=>some (.nx (env.set i (some (.lst xs.reverse))))
abbrev GF:=D→Env→Option Env
def nmG(i:Nat):GF:=fun d env=>some (env.set i (some d))
def nz:List Nat→List D→Env→Option Env
 |[],[],env=>some env
 |i::is,d::ds,env=>nz is ds (env.set i (some d))
 |_,_,_=>none
def sT(is:List Nat):GF:=fun d env=>match d with
 | .tup ds=>nz is ds env
 | .kt ds=>nz is ds env
 |_=>none
def vy(f:VF)(g:GF):SF:=fun env=>(f env).bind fun d=>(g d env).bind fun e=>some (.nx e)
def mo(g:GF)(b:SF):List D→SF
 |[],env=>some (.nx env)
 |x::xs,env=>(g x env).bind fun e=>(b e).bind fun
  | .nx e=>mo g b xs e
  | .ct e=>mo g b xs e
  | .bk e=>some (.nx e)
  | .rt d=>some (.rt d)
def nA(fi:AF)(g:GF)(b:SF):SF:=fun env=>(fi env).bind fun ds=>mo g b ds env
def whN(c:BF)(b:SF):Nat→SF
 |0,_=>none
 |n+1,env=>(c env).bind fun x=>if x=true then(b env).bind fun
  | .nx e=>whN c b n e
  | .ct e=>whN c b n e
  | .bk e=>some (.nx e)
  | .rt d=>some (.rt d)
  else some (.nx env)
def whS(c:BF)(b:SF):SF:=whN c b 1000000
theorem sU{c:BF}{b:SF}:∀{n m:Nat} {env:Env} {o:Out},whN c b n env=some o→n≤m→whN c b m env=some o
 |0,_,_,_,h,_=>by cases h
 |n+1,0,_,_,_,hm=>by omega
 |n+1,m+1,env,o,h,hm=>by
  rw[whN] at h ⊢
  obtain⟨x,ex,h⟩:=bnd h
  rw[ex]
  show (if x=true then _ else _)=_
  cases x with
  |false=>exact h
  |true=>
   rw[if_pos rfl] at h ⊢
   obtain⟨r,er,h⟩:=bnd h
   rw[er]
   cases r with
   |nx e=>exact sU (n:=n) (m:=m) h (by omega)
   |ct e=>exact sU (n:=n) (m:=m) h (by omega)
   |bk e=>exact h
   |rt d=>exact h
theorem xh{c:BF}{b:SF}{n:Nat}{env:Env}{o:Out}(h:whN c b n env=some o)(hn:n≤1000000:=by omega):whS c b env=some o:=sU h hn
section
variable(K:W.Frag)(ns:List Str)
abbrev Lm(L0:Addr→Prop)(H0:Hp)(O:List (Option Addr)):Addr→Prop:=fun a=>Nw L0 H0 a∧some a∉O
structure Iv(fl:List Bool)(L0:Addr→Prop)(H0:Hp)(O:List (Option Addr))(env:Env)(σ:St)(H:Hp):Prop where
 sm:Same H0 H
 fl:O.map Option.isSome=fl
 ln:σ.length=O.length
 le:env.length=O.length
 rd:∀(i:Nat) (d:D),env[i]? =some (some d)→O[i]? =some none→∃v,σ[i]? =some (some v)∧Rd K ns (Lm L0 H0 O) H v d
 ow:∀(i:Nat) (p:Addr),O[i]? =some (some p)→H0 p=none∧σ[i]? =some (some (.ref p))∧∃o d,env[i]? =some (some d)∧H p=some o∧RdO K ns (Lm L0 H0 O) H o d
 inj:∀(i j:Nat) (p:Addr),O[i]? =some (some p)→O[j]? =some (some p)→i=j
structure Step(O:List (Option Addr))(H:Hp)(O':List (Option Addr))(H':Hp):Prop where
 ow:∀p,some p∈O'→some p∈O∨H p=none
 kp:∀a o,H a=some o→some a∉O→H' a=some o
 dm:∀a,H' a=none→H a=none
def Res(fr:Fr)(L0:Addr→Prop)(H0 H':Hp)(v:V)(d:D):Prop:=match fr with
 | .no=>Rd K ns (Nw L0 H0) H' v d
 | .yes=>∃p us ds,v= .ref p∧d= .lst ds∧H0 p=none∧H' p=some (.lst us)∧Rds K ns (fun a=>Nw L0 H0 a∧a≠p) H' us ds
 | .pr=>∃t p us ds v2 d2,v= .ref t∧d= .tup [.lst ds,d2]∧H' t=some (.tup [.ref p,v2])∧H0 p=none∧H' p=some (.lst us)∧Rds K ns (fun a=>Nw L0 H0 a∧a≠p) H' us ds∧Rd K ns (fun _=>False) H' v2 d2
 | .nw=>Rd K ns (fun a=>H0 a=none) H' v d
def Fin(fr:Fr)(lf fl:List Bool)(L0:Addr→Prop)(H0:Hp)(O:List (Option Addr))(H:Hp)(E:Ends):Option Out→Prop
 |some (.nx e)=>∀O' σ' H',Step O H O' H'→Iv K ns fl L0 H0 O' e σ' H'→E.nx σ' H'
 |some (.bk e)=>∀O' σ' H',Step O H O' H'→Iv K ns lf L0 H0 O' e σ' H'→E.bk σ' H'
 |some (.ct e)=>∀O' σ' H',Step O H O' H'→Iv K ns lf L0 H0 O' e σ' H'→E.ct σ' H'
 |some (.rt d)=>∀v H',Same H0 H'→Res K ns fr L0 H0 H' v d→E.rt v H'
 |none=>False
def PuS(fr:Fr)(lf fl:List Bool)(t:TS)(F:SF)(fl':List Bool):Prop:=∀(L0:Addr→Prop) (H0:Hp) (O:List (Option Addr)) (env:Env) (σ:St) (H:Hp) (E:Ends),Iv K ns fl L0 H0 O env σ H→Fin K ns fr lf fl' L0 H0 O H E (F env)→t E σ H
def PuG(fl:List Bool)(g:TG)(G:GF):Prop:=∀(L0:Addr→Prop) (H0:Hp) (O:List (Option Addr)) (env e:Env) (σ:St) (H:Hp) (x:V) (d:D) (Q:St→Hp→Prop),Iv K ns fl L0 H0 O env σ H→Rd K ns (Lm L0 H0 O) H x d→G d env=some e→(∀σ',Iv K ns fl L0 H0 O e σ' H→Q σ' H)→g x σ H Q
end
section
variable{K:W.Frag}{ns:List Str}{fr:Fr}{lf fl fl' fl'':List Bool}{L0:Addr→Prop}{H0 H H' H'':Hp}{O O' O'':List (Option Addr)}{env:Env}{σ:St}
theorem Step.refl:Step O H O H:=⟨fun _ h=> .inl h,fun _ _ e _=>e,fun _ h=>h⟩
theorem Step.trans(a:Step O H O' H')(b:Step O' H' O'' H''):Step O H O'' H'' where
 ow p h:=by
  rcases b.ow p h with h|h
  · exact a.ow p h
  · exact .inr (a.dm _ h)
 kp c o e h:=b.kp c o (a.kp c o e h) fun q=>by
  rcases a.ow c q with q|q
  · exact h q
  · rw[e] at q;cases q
 dm c h:=a.dm c (b.dm c h)
theorem Step.same(S:Same H H'):Step O H O H':=⟨fun _ h=> .inl h,fun _ _ e _=>S _ _ e,fun _ h=>gG S h⟩
theorem Iv.same(I:Iv K ns fl L0 H0 O env σ H)(S:Same H H'):Iv K ns fl L0 H0 O env σ H' where
 sm:=I.sm.trans S
 fl:=I.fl
 ln:=I.ln
 le:=I.le
 rd i d e h:=by
  obtain⟨v,q,r⟩:=I.rd i d e h
  exact⟨v,q,r.same S⟩
 ow i p h:=by
  obtain⟨h0,q,vs,ds,e,hp,r⟩:=I.ow i p h
  exact⟨h0,q,vs,ds,e,S _ _ hp,r.same S⟩
 inj:=I.inj
theorem Iv.own_in(I:Iv K ns fl L0 H0 O env σ H){p:Addr}(h:some p∈O):∃o,H p=some o∧wZ o=true:=by
 obtain⟨i,hi,e⟩:=List.getElem_of_mem h
 obtain⟨_,_,vs,_,_,hp,hr⟩:=I.ow i p (by rw[List.getElem?_eq_getElem hi,e])
 exact⟨vs,hp,hr.mut⟩
theorem Iv.new_m(I:Iv K ns fl L0 H0 O env σ H){a:Addr}(h:H a=none):Lm L0 H0 O a:=⟨.inr (gG I.sm h),fun q=>by
 obtain⟨vs,e,_⟩:=I.own_in q
 rw[h] at e
 cases e⟩
theorem Iv.nwm(I:Iv K ns fl L0 H0 O env σ H){a:Addr}(h:Nw (Lm L0 H0 O) H a):Lm L0 H0 O a:=h.elim id I.new_m
theorem Iv.weak(I:Iv K ns fl L0 H0 O env σ H):EnvR K ns (Nw L0 H0) env σ H:=fun i d e=>by
 have hi:i<O.length:=by rw[←I.le];exact(List.getElem?_eq_some_iff.mp e).1
 cases q:O[i]? with
 |none=>rw[List.getElem?_eq_getElem hi] at q;cases q
 |some o=>
  cases o with
  |none=>
   obtain⟨v,hv,r⟩:=I.rd i d e q
   exact⟨v,hv,r.mono (fun _ z=>z.1) .refl⟩
  |some p=>
   obtain⟨h0,hs,vs,ds,e',hp,r⟩:=I.ow i p q
   rw[e] at e'
   cases e'
   exact⟨_,hs,(r.mono (fun _ z=>z.1) .refl).rd (.inr h0) hp⟩
theorem xi{i:Nat}{d:D}(h:(eT fl env)[i]? =some (some d)):fl[i]? =some false∧env[i]? =some (some d):=by
 unfold eT at h
 rw[List.getElem?_zipWith] at h
 cases e1:fl[i]? with
 |none=>rw[e1] at h;cases h
 |some b=>
  cases e2:env[i]? with
  |none=>rw[e1,e2] at h;cases h
  |some o=>
   rw[e1,e2] at h
   cases b with
   |true=>cases h
   |false=>exact⟨rfl,by cases h;rfl⟩
theorem Iv.flag(I:Iv K ns fl L0 H0 O env σ H){i:Nat}{b:Bool}(h:fl[i]? =some b):∃o,O[i]? =some o∧o.isSome=b:=by
 rw[←I.fl,List.getElem?_map] at h
 obtain⟨o,ho,e⟩:=Option.map_eq_some_iff.mp h
 exact⟨o,ho,e⟩
theorem Iv.free(I:Iv K ns fl L0 H0 O env σ H){i:Nat}(h:fl[i]? =some false):O[i]? =some none:=by
 obtain⟨o,ho,e⟩:=I.flag h
 cases o with
 |none=>exact ho
 |some p=>cases e
theorem Iv.owned(I:Iv K ns fl L0 H0 O env σ H){i:Nat}(h:fl[i]? =some true):∃p,O[i]? =some (some p):=by
 obtain⟨o,ho,e⟩:=I.flag h
 cases o with
 |none=>cases e
 |some p=>exact⟨p,ho⟩
theorem Iv.strict(I:Iv K ns fl L0 H0 O env σ H):EnvR K ns (Lm L0 H0 O) (eT fl env) σ H:=fun i d e=>by
 obtain⟨h1,h2⟩:=xi e
 exact I.rd i d h2 (I.free h1)
theorem ji{i:Nat}{a:Addr}(h:some a∈O.set i none):some a∈O:=by
 rcases List.mem_or_eq_of_mem_set h with q|q
 · exact q
 · cases q
theorem Iv.store(I:Iv K ns fl L0 H0 O env σ H){i:Nat}{v:V}{d:D}(r:Rd K ns (Lm L0 H0 O) H v d):Iv K ns (fl.set i false) L0 H0 (O.set i none) (env.set i (some d)) (σ.set i (some v)) H:=by
 have up:∀a,Lm L0 H0 O a→Lm L0 H0 (O.set i none) a:=fun a h=>⟨h.1,fun q=>h.2 (ji q)⟩
 refine⟨I.sm,by rw[←I.fl,List.map_set];rfl,by simp[I.ln],by simp[I.le],fun j d' e h=> ?_,fun j p h=> ?_,fun j k p h1 h2=> ?_⟩
 · rw[List.getElem?_set] at e
   rw[List.getElem?_set]
   split at e
   · rename_i z
     rw[if_pos z]
     split at e
     · rename_i hl
       cases e
       rw[if_pos (by rw[I.ln,←I.le];exact hl)]
       exact⟨v,rfl,r.mono up .refl⟩
     · cases e
   · rename_i z
     rw[if_neg z]
     rw[List.getElem?_set,if_neg z] at h
     obtain⟨v',q,r'⟩:=I.rd j d' e h
     exact⟨v',q,r'.mono up .refl⟩
 · rw[List.getElem?_set] at h
   split at h
   · split at h<;>cases h
   · rename_i z
     obtain⟨h0,hs,vs,ds,e,hp,r'⟩:=I.ow j p h
     exact⟨h0,by rw[List.getElem?_set,if_neg z];exact hs,vs,ds,by rw[List.getElem?_set,if_neg z];exact e,hp,r'.mono up .refl⟩
 · rw[List.getElem?_set] at h1 h2
   split at h1
   · split at h1<;>cases h1
   · split at h2
     · split at h2<;>cases h2
     · exact I.inj j k p h1 h2
theorem Iv.give(I:Iv K ns fl L0 H0 O env σ H)(i:Nat):Iv K ns (fl.set i false) L0 H0 (O.set i none) env σ H:=by
 have up:∀a,Lm L0 H0 O a→Lm L0 H0 (O.set i none) a:=fun a h=>⟨h.1,fun q=>h.2 (ji q)⟩
 refine⟨I.sm,by rw[←I.fl,List.map_set];rfl,by simp[I.ln],by simp[I.le],fun j d' e h=> ?_,fun j p h=> ?_,fun j k p h1 h2=> ?_⟩
 · have hj:j<O.length:=by rw[←I.le];exact(List.getElem?_eq_some_iff.mp e).1
   cases q:O[j]? with
   |none=>rw[List.getElem?_eq_getElem hj] at q;cases q
   |some o=>
    cases o with
    |none=>
     obtain⟨v',q,r'⟩:=I.rd j d' e q
     exact⟨v',q,r'.mono up .refl⟩
    |some p=>
     obtain⟨h0,hs,vs,ds,e',hp,r⟩:=I.ow j p q
     rw[e] at e'
     cases e'
     refine⟨_,hs,(r.mono up .refl).rd ⟨.inr h0,fun z=> ?_⟩ hp⟩
     obtain⟨k,hk,ek⟩:=List.getElem_of_mem z
     have hk':(O.set i none)[k]? =some (some p):=by rw[List.getElem?_eq_getElem hk,ek]
     rw[List.getElem?_set] at hk'
     split at hk'
     · split at hk'<;>cases hk'
     · rename_i hik
       have:=I.inj j k p q hk'
       subst this
       rw[List.getElem?_set,if_neg hik,q] at h
       cases h
 · rw[List.getElem?_set] at h
   split at h
   · split at h<;>cases h
   · obtain⟨h0,hs,vs,ds,e,hp,r'⟩:=I.ow j p h
     exact⟨h0,hs,vs,ds,e,hp,r'.mono up .refl⟩
 · rw[List.getElem?_set] at h1 h2
   split at h1
   · split at h1<;>cases h1
   · split at h2
     · split at h2<;>cases h2
     · exact I.inj j k p h1 h2
theorem Step.give(i:Nat):Step O H (O.set i none) H:=⟨fun _ h=> .inl (ji h),fun _ _ e _=>e,fun _ h=>h⟩
theorem Iv.takeO(I:Iv K ns fl L0 H0 O env σ H){i:Nat}{p:Addr}{vs:HO}{ds:D}(S:Same H H')(hp:H p=none)(e:H' p=some vs)(r:RdO K ns (fun a=>Nw (Lm L0 H0 O) H a∧a≠p) H' vs ds)(hi:i<O.length):
 Iv K ns (fl.set i true) L0 H0 (O.set i (some p)) (env.set i (some ds)) (σ.set i (some (.ref p))) H':=by
 have up:∀a o,H a=some o→Lm L0 H0 O a→Lm L0 H0 (O.set i (some p)) a:=fun a o ea h=>⟨h.1,fun q=>by
  rcases List.mem_or_eq_of_mem_set q with q|q
  · exact h.2 q
  · cases q
    rw[hp] at ea
    cases ea⟩
 have np:some p∉O:=fun q=>by
  obtain⟨vs,e,_⟩:=I.own_in q
  rw[hp] at e
  cases e
 refine⟨I.sm.trans S,by rw[←I.fl,List.map_set];rfl,by simp[I.ln],by simp[I.le],fun j d' e' h=> ?_,fun j p' h=> ?_,fun j k p' h1 h2=> ?_⟩
 · by_cases z:i=j
   · subst z
     rw[List.getElem?_set,if_pos rfl,if_pos hi] at h
     cases h
   · rw[List.getElem?_set,if_neg z] at h
     rw[List.getElem?_set,if_neg z] at e' ⊢
     obtain⟨v',q,r'⟩:=I.rd j d' e' h
     exact⟨v',q,r'.mono2 up (.of S)⟩
 · by_cases z:i=j
   · subst z
     rw[List.getElem?_set,if_pos rfl,if_pos hi] at h
     cases h
     refine⟨gG I.sm hp,by rw[List.getElem?_set,if_pos rfl,if_pos (by rw[I.ln];exact hi)],vs,ds,by rw[List.getElem?_set,if_pos rfl,if_pos (by rw[I.le];exact hi)],e,r.mono (fun a q=> ?_) .refl⟩
     have:=I.nwm q.1
     refine⟨this.1,fun z=> ?_⟩
     rcases List.mem_or_eq_of_mem_set z with z|z
     · exact this.2 z
     · cases z
       exact q.2 rfl
   · rw[List.getElem?_set,if_neg z] at h
     obtain⟨h0,hs,us,es,e',hp',r'⟩:=I.ow j p' h
     exact⟨h0,by rw[List.getElem?_set,if_neg z];exact hs,us,es,by rw[List.getElem?_set,if_neg z];exact e',S _ _ hp',r'.mono2 up (.of S)⟩
 · rw[List.getElem?_set] at h1 h2
   by_cases zj:i=j
   · subst zj
     rw[if_pos rfl,if_pos hi] at h1
     cases h1
     by_cases zk:i=k
     · exact zk
     · rw[if_neg zk] at h2
       exact absurd (List.mem_of_getElem? h2) np
   · rw[if_neg zj] at h1
     by_cases zk:i=k
     · subst zk
       rw[if_pos rfl,if_pos hi] at h2
       cases h2
       exact absurd (List.mem_of_getElem? h1) np
     · rw[if_neg zk] at h2
       exact I.inj j k p' h1 h2
theorem Iv.take(I:Iv K ns fl L0 H0 O env σ H){i:Nat}{p:Addr}{vs:List V}{ds:List D}(S:Same H H')(hp:H p=none)(e:H' p=some (.lst vs))(r:Rds K ns (fun a=>Nw (Lm L0 H0 O) H a∧a≠p) H' vs ds)(hi:i<O.length):
 Iv K ns (fl.set i true) L0 H0 (O.set i (some p)) (env.set i (some (.lst ds))) (σ.set i (some (.ref p))) H':=I.takeO (vs:= .lst vs) (ds:= .lst ds) S hp e r hi
theorem Step.take{i:Nat}{p:Addr}(S:Same H H')(hp:H p=none):Step O H (O.set i (some p)) H':=⟨fun q h=>by
 rcases List.mem_or_eq_of_mem_set h with h|h
 · exact .inl h
 · cases h
   exact .inr hp,fun _ _ e _=>S _ _ e,fun _ h=>gG S h⟩
theorem Iv.alterO(I:Iv K ns fl L0 H0 O env σ H){i:Nat}{p:Addr}{vs:HO}{ds:D}(ho:O[i]? =some (some p))(r:RdO K ns (Lm L0 H0 O) H vs ds):
 Iv K ns fl L0 H0 O (env.set i (some ds)) σ (upd H p vs):=by
 obtain⟨h0,hs,us,es,e,hp,ru⟩:=I.ow i p ho
 have np:¬Lm L0 H0 O p:=fun q=>q.2 (List.mem_of_getElem? ho)
 have kp:KeepL (Lm L0 H0 O) H (upd H p vs):=fun a o ea hm=>by
  by_cases z:a=p
  · subst z
    rw[hp] at ea
    cases ea
    exact absurd (hm ru.mut) np
  · rw[aJ z];exact ea
 refine⟨fun b o eb=> ?_,I.fl,I.ln,by simp[I.le],fun j d' e' h=> ?_,fun j p' h=> ?_,I.inj⟩
 · rw[aJ (aG eb h0)]
   exact I.sm _ _ eb
 · rw[List.getElem?_set] at e'
   split at e'
   · rename_i z
     subst z
     rw[ho] at h
     cases h
   · obtain⟨v',q,r'⟩:=I.rd j d' e' h
     exact⟨v',q,r'.mono (fun _ q=>q) kp⟩
 · obtain⟨h0',hs',us',es',e2,hp',r'⟩:=I.ow j p' h
   by_cases z:i=j
   · subst z
     rw[ho] at h
     cases h
     exact⟨h0,hs,vs,ds,by rw[List.getElem?_set,if_pos rfl,if_pos (List.getElem?_eq_some_iff.mp e).1],aI,r.mono (fun _ q=>q) kp⟩
   · have pp:p'≠p:=fun q=>by
      subst q
      exact z (I.inj i j p' ho h)
     exact⟨h0',hs',us',es',by rw[List.getElem?_set,if_neg z];exact e2,by rw[aJ pp];exact hp',r'.mono (fun _ q=>q) kp⟩
theorem Iv.alter(I:Iv K ns fl L0 H0 O env σ H){i:Nat}{p:Addr}{vs:List V}{ds:List D}(ho:O[i]? =some (some p))(r:Rds K ns (Lm L0 H0 O) H vs ds):
 Iv K ns fl L0 H0 O (env.set i (some (.lst ds))) σ (upd H p (.lst vs)):=I.alterO (vs:= .lst vs) (ds:= .lst ds) ho r
theorem Step.alter{p:Addr}{vs:HO}(h:some p∈O):Step O H O (upd H p vs):=⟨fun _ q=> .inl q,fun a o e hn=>by rw[aJ fun z=>hn (by rw[z];exact h)];exact e,fun a q=>by
 by_cases z:a=p
 · subst z
   rw[aI] at q
   cases q
 · rw[aJ z] at q
   exact q⟩
theorem Fin.mono{E E':Ends}{o:Option Out}(T:Step O H O' H')(h:Fin K ns fr lf fl' L0 H0 O H E o)(hr:E.rt=E'.rt)(hn:E.nx=E'.nx)(hb:E.bk=E'.bk)(hc:E.ct=E'.ct):Fin K ns fr lf fl' L0 H0 O' H' E' o:=by
 cases o with
 |none=>exact h
 |some o=>
  cases o with
  |nx e=>intro O2 σ2 H2 T2 I2;rw[←hn];exact h O2 σ2 H2 (T.trans T2) I2
  |rt d=>intro v H2 S2 r2;rw[←hr];exact h v H2 S2 r2
  |bk e=>intro O2 σ2 H2 T2 I2;rw[←hb];exact h O2 σ2 H2 (T.trans T2) I2
  |ct e=>intro O2 σ2 H2 T2 I2;rw[←hc];exact h O2 σ2 H2 (T.trans T2) I2
theorem aB{t u:TS}{F G:SF}(a:PuS K ns fr lf fl t F fl')(b:PuS K ns fr lf fl' u G fl''):PuS K ns fr lf fl (oG t u) (aE F G) fl'':=by
 intro L0 H0 O env σ H E I h
 refine a L0 H0 O env σ H _ I ?_
 unfold aE at h
 cases e:F env with
 |none=>rw[e] at h;exact h
 |some o=>
  rw[e] at h
  cases o with
  |nx e2=>exact fun O' σ' H' T I'=>b L0 H0 O' e2 σ' H' E I' (Fin.mono T h rfl rfl rfl rfl)
  |rt d=>exact h
  |bk e=>exact h
  |ct e=>exact h
theorem bf:PuS K ns fr lf fl tT nxS fl:=fun L0 H0 O env σ H E I h=>h O σ H .refl I
def gives:List Nat→List Bool→List Bool
 |[],fl=>fl
 |i::r,fl=>gives r (fl.set i false)
theorem Iv.gives:∀(is:List Nat) {fl:List Bool} {O:List (Option Addr)},Iv K ns fl L0 H0 O env σ H→∃O',Step O H O' H∧Iv K ns (gives is fl) L0 H0 O' env σ H
 |[],_,O,I=>⟨O, .refl,I⟩
 |i::r,_,O,I=>by
  obtain⟨O',T,I'⟩:=Iv.gives r (I.give i)
  exact⟨O',(Step.give i).trans T,I'⟩
theorem bo{t:TE}{f:VF}(h:PuE K ns t f):PuS K ns .no lf fl (sr t) (bq f) fl':=by
 intro L0 H0 O env σ H E I k
 unfold bq at k
 cases e:f env with
 |none=>rw[e] at k;exact k.elim
 |some d=>
  rw[e] at k
  exact h _ env σ H _ d I.weak e fun v H' S r=>k v H' (I.sm.trans S) (r.mono (fun _ q=>nw2 I.sm q) .refl)
theorem qg{t:TE}{f:VF}(h:PuF K ns t f):PuS K ns .yes lf fl (sr t) (bq f) fl':=by
 intro L0 H0 O env σ H E I k
 unfold bq at k
 cases e:f env with
 |none=>rw[e] at k;exact k.elim
 |some d=>
  rw[e] at k
  exact h _ env σ H _ d I.weak e fun p vs ds H' ed S hp hl r=>k _ H' (I.sm.trans S) ⟨p,vs,ds,rfl,ed,gG I.sm hp,hl,r.mono (fun _ q=>⟨nw2 I.sm q.1,q.2⟩) .refl⟩
def rD(i:Nat):SF:=fun env=>(eX i env).bind fun xs=>some (.rt (.lst xs))
theorem qh(i:Nat)(hi:fl[i]? =some true):PuS K ns .yes lf fl (sr (iX i)) (rD i) fl':=by
 intro L0 H0 O env σ H E I k
 obtain⟨p,ho⟩:=I.owned hi
 obtain⟨h0,hs,o,d,e,hp,r⟩:=I.ow i p ho
 unfold rD eX at k
 rw[e] at k
 rcases r.case with⟨vs,ds,rfl,rfl,r⟩|⟨kvs,ds,rfl,rfl,r⟩|⟨kvs,ds,rfl,rfl,r⟩
 rotate_left
 · exact k.elim
 · exact k.elim
 exact⟨_,hs,k _ H I.sm ⟨p,vs,ds,rfl,rfl,h0,hp,r.mono (fun a q=>⟨q.1,fun z=>q.2 (z▸List.mem_of_getElem? ho)⟩) .refl⟩⟩
theorem cY{c:TT}{t u:TS}{fc:BF}{F G:SF}(h:PuT K ns c fc)(a:PuS K ns fr lf fl t F fl')(b:PuS K ns fr lf fl u G fl'):PuS K ns fr lf fl (vS c t u) (ifS fc F G) fl':=by
 intro L0 H0 O env σ H E I k
 unfold ifS at k
 cases e:fc env with
 |none=>rw[e] at k;exact k.elim
 |some x=>
  rw[e] at k
  refine h _ env σ H _ x I.weak e fun H' S=> ?_
  cases x with
  |true=>
   rw[if_pos rfl]
   exact a _ _ _ _ _ _ _ (I.same S) (Fin.mono (.same S) k rfl rfl rfl rfl)
  |false=>
   rw[if_neg Bool.false_ne_true]
   exact b _ _ _ _ _ _ _ (I.same S) (Fin.mono (.same S) k rfl rfl rfl rfl)
theorem aW(i:Nat){t:TE}{f:VF}(h:PuE K ns t f):PuS K ns fr lf fl (mL t (iD i)) (aU i (mk fl f)) (fl.set i false):=by
 intro L0 H0 O env σ H E I k
 unfold aU mk at k
 cases e:f (eT fl env) with
 |none=>rw[e] at k;exact k.elim
 |some d=>
  rw[e] at k
  refine h _ (eT fl env) σ H _ d I.strict e fun v H' S r=> ?_
  exact k _ _ H' ((Step.same S).trans (.give i)) ((I.same S).store (r.mono (fun _ q=>I.nwm q) .refl))
theorem kN(i:Nat){t:TE}{f:VF}(h:PuF K ns t f)(hi:i<fl.length):PuS K ns fr lf fl (mL t (iD i)) (aU i (mk fl f)) (fl.set i true):=by
 intro L0 H0 O env σ H E I k
 unfold aU mk at k
 cases e:f (eT fl env) with
 |none=>rw[e] at k;exact k.elim
 |some d=>
  rw[e] at k
  refine h _ (eT fl env) σ H _ d I.strict e fun p vs ds H' ed S hp hl r=> ?_
  subst ed
  exact k _ _ H' (.take S hp) (I.take S hp hl r (by rw[←I.fl,List.length_map] at hi;exact hi))
theorem qi(I:Iv K ns fl L0 H0 O env σ H){i:Nat}(hi:fl[i]? =some true):eX i env=none∨∃p vs ds,O[i]? =some (some p)∧σ[i]? =some (some (.ref p))∧eX i env=some ds∧H p=some (.lst vs)∧Rds K ns (Lm L0 H0 O) H vs ds:=by
 obtain⟨p,ho⟩:=I.owned hi
 obtain⟨h0,hs,o,d,e,hp,r⟩:=I.ow i p ho
 rcases r.case with⟨vs,ds,rfl,rfl,r⟩|⟨kvs,ds,rfl,rfl,r⟩|⟨kvs,ds,rfl,rfl,r⟩
 · exact .inr ⟨p,vs,ds,ho,hs,by unfold eX;rw[e];rfl,hp,r⟩
 · exact .inl (by unfold eX;rw[e];rfl)
 · exact .inl (by unfold eX;rw[e];rfl)
theorem Fin.no{E:Ends}{A:Prop}{o:Option Out}(h:Fin K ns fr lf fl L0 H0 O H E o)(e:o=none):A:=by subst e;exact h.elim
theorem zE{α β:Type}{o:Option α}:(o.bind fun _=>(none:Option β))=none:=by cases o<;>rfl
theorem nD(i:Nat){t:TE}{f:VF}(h:PuE K ns t f)(hi:fl[i]? =some true):PuS K ns fr lf fl (re (tBM K "list" kI (iX i) (bO t iC))) (j7 i (mk fl f)) fl:=by
 intro L0 H0 O env σ H E I k
 rcases qi I hi with hn|⟨p,vs,ds,ho,hs,hd,hp,r⟩
 · exact Fin.no k (by unfold j7;rw[hn];exact zE)
 unfold j7 mk at k
 cases e:f (eT fl env) with
 |none=>rw[e] at k;exact k.elim
 |some d=>
  rw[e] at k
  have k':Fin K ns fr lf fl L0 H0 O H E ((eX i env).bind fun xs=>if xs.length<1000000 then some (.nx (env.set i (some (.lst (xs++[d]))))) else none):=k
  rw[hd] at k'
  have k2:Fin K ns fr lf fl L0 H0 O H E (if ds.length<1000000 then some (.nx (env.set i (some (.lst (ds++[d]))))) else none):=k'
  by_cases hl:ds.length<1000000
  · rw[if_pos hl] at k2
    refine⟨_,hs, .inl ⟨rfl,_,SqL.of hp⟩,h _ (eT fl env) σ H _ d I.strict e fun v H' S rv=>⟨p,vs,v,rfl,rfl,S _ _ hp,by rw[r.len];exact Nat.lt_trans hl (by decide), ?_⟩⟩
    have I':=I.same S
    exact k2 _ _ _ ((Step.same S).trans (.alter (List.mem_of_getElem? ho))) (I'.alter ho ((r.same S).append (.cons (rv.mono (fun _ q=>I.nwm q) .refl) .nil)))
  · rw[if_neg hl] at k2
    exact k2.elim
theorem xj(i:Nat){t:TE}{f:VF}(h:PuE K ns t f)(hi:fl[i]? =some true):PuS K ns fr lf fl (re (tBM K "list" kI (iX i) (bO t iC))) (oO i f) fl:=by
 intro L0 H0 O env σ H E I k
 rcases qi I hi with hn|⟨p,vs,ds,ho,hs,hd,hp,r⟩
 · exact Fin.no k (by unfold oO;rw[hn];cases f env with|none=>rfl|some d=>exact ite_self none)
 unfold oO at k
 cases e:f env with
 |none=>rw[e] at k;exact k.elim
 |some d=>
  rw[e] at k
  have k':Fin K ns fr lf fl L0 H0 O H E (if d.flat=true then(eX i env).bind fun xs=>if xs.length<1000000 then some (.nx (env.set i (some (.lst (xs++[d]))))) else none else none):=k
  by_cases hfl:d.flat=true
  · rw[if_pos hfl,hd] at k'
    have k2:Fin K ns fr lf fl L0 H0 O H E (if ds.length<1000000 then some (.nx (env.set i (some (.lst (ds++[d]))))) else none):=k'
    by_cases hl:ds.length<1000000
    · rw[if_pos hl] at k2
      refine⟨_,hs, .inl ⟨rfl,_,SqL.of hp⟩,h _ env σ H _ d I.weak e fun v H' S rv=>⟨p,vs,v,rfl,rfl,S _ _ hp,by rw[r.len];exact Nat.lt_trans hl (by decide), ?_⟩⟩
      have I':=I.same S
      exact k2 _ _ _ ((Step.same S).trans (.alter (List.mem_of_getElem? ho))) (I'.alter ho ((r.same S).append (.cons (rv.flat hfl) .nil)))
    · rw[if_neg hl] at k2
      exact k2.elim
  · rw[if_neg hfl] at k'
    exact k'.elim
theorem nE{α:Type}:∀{l:List α} {i:Nat} {x:α},l[i]? =some x→l.set i x=l
 |[],_,_,h=>by simp at h
 |_::_,0,_,h=>by cases h;rfl
 |_::l,i+1,_,h=>congrArg _ (nE (l:=l) (i:=i) h)
theorem lL(i:Nat)(hi:fl[i]? =some false):PuG K ns fl (iD i) (nmG i):=by
 intro L0 H0 O env e σ H x d Q I r hg k
 cases hg
 have ho:=I.free hi
 have:=I.store (i:=i) r
 have e1:fl.set i false=fl:=nE hi
 have e2:O.set i none=O:=nE ho
 rw[e1,e2] at this
 exact k _ this
theorem AM{t:TE}{f:VF}{g:TG}{G:GF}(h:PuE K ns t f)(hg:PuG K ns fl g G):PuS K ns fr lf fl (mL t g) (vy (mk fl f) G) fl:=by
 intro L0 H0 O env σ H E I k
 unfold vy mk at k
 cases e:f (eT fl env) with
 |none=>rw[e] at k;exact k.elim
 |some d=>
  rw[e] at k
  have k':Fin K ns fr lf fl L0 H0 O H E ((G d env).bind fun e=>some (.nx e)):=k
  cases e2:G d env with
  |none=>rw[e2] at k';exact k'.elim
  |some en=>
   rw[e2] at k'
   refine h _ (eT fl env) σ H _ d I.strict e fun v H' S r=> ?_
   exact hg L0 H0 O env en σ H' v d _ (I.same S) (r.mono (fun _ q=>I.nwm q) .refl) e2 fun σ' I'=>k' _ _ _ (.same S) I'
theorem pw{wi:TI}{g:TG}{t:TS}{fi:AF}{G:GF}{b:SF}{lf0:List Bool}(hi:PuI K ns wi fi)(hg:PuG K ns fl g G)(hb:PuS K ns fr fl fl t b fl):PuS K ns fr lf0 fl (CW wi g t) (nA (mk fl fi) G b) fl:=by
 intro L0 H0 O env σ H E I k
 unfold nA mk at k
 cases e:fi (eT fl env) with
 |none=>rw[e] at k;exact k.elim
 |some ds=>
  rw[e] at k
  have k1:Fin K ns fr lf0 fl L0 H0 O H E (mo G b ds env):=k
  refine hi _ (eT fl env) σ H _ ds I.strict e fun J H1 S1 it=> ?_
  refine⟨fun i m σ2 H2=>m=ds.length-i∧i≤ds.length∧∃O2 e2,Step O H1 O2 H2∧Iv K ns fl L0 H0 O2 e2 σ2 H2∧Fin K ns fr lf0 fl L0 H0 O2 H2 E (mo G b (ds.drop i) e2),⟨_,rfl,Nat.zero_le _,O,env, .refl,I.same S1,by rw[List.drop_zero];exact Fin.mono (.same S1) k1 rfl rfl rfl rfl⟩, ?_⟩
  rintro i m σ2 H2 ⟨rfl,hle,O2,e2,T2,I2,k2⟩
  have lm:∀a o,H1 a=some o→Nw (Lm L0 H0 O) H a→Lm L0 H0 O2 a∧some a∉O:=fun a o ea hl=>by
   have:=I.nwm hl
   refine⟨⟨this.1,fun q=> ?_⟩,this.2⟩
   rcases T2.ow a q with q|q
   · exact this.2 q
   · rw[ea] at q;cases q
  have kp:KeepL (fun a=>Lm L0 H0 O2 a∧some a∉O) H1 H2:=fun a o ea hm=>by
   refine T2.kp a o ea fun hq=> ?_
   obtain⟨vs,hv,hmu⟩:=(I.same S1).own_in hq
   rw[ea] at hv
   cases hv
   exact(hm hmu).2 hq
  obtain⟨go,stop⟩:=it (fun a=>Lm L0 H0 O2 a∧some a∉O) i H2 lm kp
  by_cases hlt:i<ds.length
  · obtain⟨gg,yl⟩:=go ds[i] (List.getElem?_eq_getElem hlt)
    rw[List.drop_eq_getElem_cons hlt,mo] at k2
    refine .inr ⟨gg,fun σ' H'=>∃m',m'<ds.length-i∧m'=ds.length-(i+1)∧i+1≤ds.length∧∃O2 e2,Step O H1 O2 H'∧Iv K ns fl L0 H0 O2 e2 σ' H'∧Fin K ns fr lf0 fl L0 H0 O2 H' E (mo G b (ds.drop (i+1)) e2),fun σ' H' h=>h,fun x H3 y=> ?_⟩
    obtain⟨S3,rx⟩:=yl x H3 y
    have I3:=I2.same S3
    cases eg:G ds[i] e2 with
    |none=>rw[eg] at k2;exact k2.elim
    |some e3=>
     rw[eg] at k2
     refine hg L0 H0 O2 e2 e3 σ2 H3 x ds[i] _ I3 (rx.mono (fun _ q=>q.elim (fun z=>z.1) I2.new_m) .refl) eg fun σ3 I4=> ?_
     refine hb L0 H0 O2 e3 σ3 H3 _ I4 ?_
     have T3:Step O2 H2 O2 H3:= .same S3
     have k3:Fin K ns fr lf0 fl L0 H0 O2 H2 E ((b e3).bind fun
      | .nx e=>mo G b (ds.drop (i+1)) e
      | .ct e=>mo G b (ds.drop (i+1)) e
      | .bk e=>some (.nx e)
      | .rt d=>some (.rt d)):=k2
     cases ebd:b e3 with
     |none=>rw[ebd] at k3;exact k3.elim
     |some o=>
      rw[ebd] at k3
      cases o with
      |nx e4=>exact fun O5 σ5 H5 T5 I5=>⟨ds.length-(i+1),by omega,rfl,hlt,O5,e4,T2.trans (T3.trans T5),I5,Fin.mono (T3.trans T5) k3 rfl rfl rfl rfl⟩
      |ct e4=>exact fun O5 σ5 H5 T5 I5=>⟨ds.length-(i+1),by omega,rfl,hlt,O5,e4,T2.trans (T3.trans T5),I5,Fin.mono (T3.trans T5) k3 rfl rfl rfl rfl⟩
      |bk e4=>exact fun O5 σ5 H5 T5 I5=>k3 O5 σ5 H5 (T3.trans T5) I5
      |rt d=>exact k3
  · have hi':ds.length=i:=by omega
    refine .inl ⟨stop hi', ?_⟩
    rw[List.drop_of_length_le (by omega)] at k2
    exact k2 O2 σ2 H2 .refl I2
end
end PD
namespace PD
open PySem L2
section
variable{K:W.Frag}{ns:List Str}{fr:Fr}{lf fl fl' fl'':List Bool}{L0:Addr→Prop}{H0 H H' H'':Hp}{O O' O'':List (Option Addr)}{env:Env}{σ:St}
def zF(K:W.Frag)(ns:List Str)(fl:List Bool)(g:TGs)(is:List Nat):Prop:=∀(L0:Addr→Prop) (H0:Hp) (O:List (Option Addr)) (env e:Env) (σ:St) (H:Hp) (xs:List V) (ds:List D) (Q:St→Hp→Prop),Iv K ns fl L0 H0 O env σ H→Rds K ns (Lm L0 H0 O) H xs ds→nz is ds env=some e→(∀σ',Iv K ns fl L0 H0 O e σ' H→Q σ' H)→g xs σ H Q
theorem sW:zF K ns fl Bi []:=by
 intro L0 H0 O env e σ H xs ds Q I r hg k
 cases r with
 |nil=>cases hg;exact⟨rfl,k _ I⟩
 |cons h t=>cases hg
theorem iG{i:Nat}{is:List Nat}{g:TGs}(hi:fl[i]? =some false)(h:zF K ns fl g is):zF K ns fl (vT (iD i) g) (i::is):=by
 intro L0 H0 O env e σ H xs ds Q I r hg k
 cases r with
 |nil=>cases hg
 |cons rv rt=>
  refine⟨_,_,rfl, ?_⟩
  exact lL i hi L0 H0 O env _ σ H _ _ _ I rv rfl fun σ' I'=>h L0 H0 O _ e σ' H _ _ Q I' rt hg k
theorem lM:∀{is:List Nat} {ds:List D} {env e:Env},nz is ds env=some e→ds.length=is.length
 |[],[],_,_,_=>rfl
 |_::is,_::ds,_,_,h=>congrArg Nat.succ (lM (is:=is) (ds:=ds) h)
 |[],_::_,_,_,h=>by cases h
 |_::_,[],_,_,h=>by cases h
theorem xn{n:Nat}{is:List Nat}{g:TGs}(h:zF K ns fl g is)(hn:is.length=n:=by rfl):PuG K ns fl (yX K n g) (sT is):=by
 intro L0 H0 O env e σ H x d Q I r hg k
 cases r<;>first|(cases hg;done)|skip
 · rename_i e1 r
   exact⟨_,_,rfl,SqT.of e1,by rw[r.len,lM hg,hn],h L0 H0 O env e σ H _ _ Q I r hg k⟩
 · rename_i e1 r
   exact⟨_,_,rfl,SqT.kt e1,by rw[r.len,lM hg,hn],h L0 H0 O env e σ H _ _ Q I r hg k⟩
theorem qj{c:TT}{t:TS}{fc:BF}{b:SF}{lf0:List Bool}(hc:PuT K ns c fc)(hb:PuS K ns fr fl fl t b fl):PuS K ns fr lf0 fl (ss c t) (whS fc b) fl:=by
 intro L0 H0 O env σ H E I k
 unfold whS at k
 refine⟨fun m σ2 H2=>∃O2 e2,Step O H O2 H2∧Iv K ns fl L0 H0 O2 e2 σ2 H2∧Fin K ns fr lf0 fl L0 H0 O2 H2 E (whN fc b m e2),⟨1000000,O,env, .refl,I,k⟩, ?_⟩
 rintro m σ2 H2 ⟨O2,e2,T2,I2,k2⟩
 cases m with
 |zero=>exact k2.elim
 |succ m=>
  rw[whN] at k2
  cases ec:fc e2 with
  |none=>rw[ec] at k2;exact k2.elim
  |some x=>
   rw[ec] at k2
   refine hc _ e2 σ2 H2 _ x I2.weak ec fun H3 S3=> ?_
   cases x with
   |false=>
    rw[if_neg Bool.false_ne_true]
    exact k2 O2 σ2 H3 (.same S3) (I2.same S3)
   |true=>
    rw[if_pos rfl]
    have T3:Step O2 H2 O2 H3:= .same S3
    refine⟨fun σ' H'=>∃m',m'<m+1∧∃O2 e2,Step O H O2 H'∧Iv K ns fl L0 H0 O2 e2 σ' H'∧Fin K ns fr lf0 fl L0 H0 O2 H' E (whN fc b m' e2),fun σ' H' h=>h, ?_⟩
    refine hb L0 H0 O2 e2 σ2 H3 _ (I2.same S3) ?_
    have k3:Fin K ns fr lf0 fl L0 H0 O2 H2 E ((b e2).bind fun
     | .nx e=>whN fc b m e
     | .ct e=>whN fc b m e
     | .bk e=>some (.nx e)
     | .rt d=>some (.rt d)):=k2
    cases ebd:b e2 with
    |none=>rw[ebd] at k3;exact k3.elim
    |some o=>
     rw[ebd] at k3
     cases o with
     |nx e4=>exact fun O5 σ5 H5 T5 I5=>⟨m,by omega,O5,e4,T2.trans (T3.trans T5),I5,Fin.mono (T3.trans T5) k3 rfl rfl rfl rfl⟩
     |ct e4=>exact fun O5 σ5 H5 T5 I5=>⟨m,by omega,O5,e4,T2.trans (T3.trans T5),I5,Fin.mono (T3.trans T5) k3 rfl rfl rfl rfl⟩
     |bk e4=>exact fun O5 σ5 H5 T5 I5=>k3 O5 σ5 H5 (T3.trans T5) I5
     |rt d=>exact k3
end
theorem AN{α:Type}(a:α):∃x,x=a:=⟨a,rfl⟩
noncomputable def aa{α:Type}(a:α):α:=Classical.choose (AN a)
theorem am{α:Type}(a:α):aa a=a:=Classical.choose_spec (AN a)
def io(n:Nat)(ds:List D):Env:=ds.map some++List.replicate (n-ds.length) none
def bG(n:Nat)(b:SF)(ds:List D):Option D:=(b (io n ds)).bind fun
 | .rt d=>some d
 | .nx _=>some .non
 |_=>none
def fQ(n:Nat)(b:SF)(ds:List D):Option D:=(b (io n ds)).bind fun
 | .rt d=>some d
 |_=>none
def spP(K:W.Frag)(ns:List Str)(fr:Fr)(n:Nat)(F:List D→Option D):Sp:=fun vs H Q _=>∃(L:Addr→Prop) (ds:List D) (d:D),ds.length=n∧Rds K ns L H vs ds∧F ds=some d∧∀v H',Same H H'→Res K ns fr L H H' v d→Q v H'
section
variable{K:W.Frag}{ns:List Str}{fr:Fr}{fl':List Bool}
theorem bu{n:Nat}{F:List D→Option D}{vs:List V}{H:Hp}{Q:VK}{E:XK}(h:spP K ns fr n F vs H Q E):vs.length=n:=by
 obtain⟨L,ds,d,hl,r,_⟩:=h
 rw[r.len,hl]
theorem kP{L:Addr→Prop}{H:Hp}{vs:List V}{ds:List D}{n:Nat}{N:List Str}(r:Rds K ns L H vs ds)(hN:N.length=n)(hn:ds.length≤n):Iv K ns (List.replicate n false) L H (List.replicate n none) (io n ds) (start N vs) H:=by
 have nm:∀a:Addr,some a∉List.replicate n (none:Option Addr):=fun a h=>by
  have:=List.eq_of_mem_replicate h
  cases this
 refine⟨Same.refl _,by simp,by unfold L2.start;simp[r.len];omega,by unfold io;simp;omega,fun i d e _=> ?_,fun i p h=> ?_,fun i j p h=> ?_⟩
 · unfold io at e
   have hi:i<ds.length:=by
    by_cases hi:i<ds.length
    · exact hi
    · rw[List.getElem?_append_right (by simp;omega)] at e
      have:=List.eq_of_mem_replicate (List.mem_of_getElem? e)
      cases this
   rw[List.getElem?_append_left (by simpa using hi),List.getElem?_map] at e
   obtain⟨d',hd,e⟩:=Option.map_eq_some_iff.mp e
   cases e
   obtain⟨v,hv,rv⟩:=r.get hd
   refine⟨v, ?_,rv.mono (fun a q=>⟨.inl q,nm a⟩) .refl⟩
   unfold L2.start
   rw[List.getElem?_append_left (by simp[r.len];exact hi),List.getElem?_map,hv]
   rfl
 · exact absurd (List.mem_of_getElem? h) (nm p)
 · exact absurd (List.mem_of_getElem? h) (nm p)
theorem cQ{t:TS}{b:SF}{n m:Nat}{N:List Str}{vs:List V}{H:Hp}{Q:VK}{E:XK}(h:PuS K ns .no [] (List.replicate n false) t b fl')(hN:N.length=n)(hm:m≤n)(s:spP K ns .no m (bG n b) vs H Q E):t {nx:=fun _ H'=>Q .non H',rt:=Q} (start N vs) H:=by
 obtain⟨L,ds,d,hl,r,hf,k⟩:=s
 refine h L H _ _ _ _ _ (kP r hN (by omega)) ?_
 unfold bG at hf
 cases e:b (io n ds) with
 |none=>rw[e] at hf;cases hf
 |some o=>
  rw[e] at hf
  cases o with
  |nx e2=>cases hf;exact fun O' σ' H' _ I'=>k _ _ I'.sm .non
  |rt d2=>cases hf;exact k
  |bk e2=>cases hf
  |ct e2=>cases hf
theorem jZ{t:TS}{b:SF}{n m:Nat}{N:List Str}{vs:List V}{H:Hp}{Q:VK}{E:XK}(h:PuS K ns .yes [] (List.replicate n false) t b fl')(hN:N.length=n)(hm:m≤n)(s:spP K ns .yes m (fQ n b) vs H Q E):t {nx:=fun _ H'=>Q .non H',rt:=Q} (start N vs) H:=by
 obtain⟨L,ds,d,hl,r,hf,k⟩:=s
 refine h L H _ _ _ _ _ (kP r hN (by omega)) ?_
 unfold fQ at hf
 cases e:b (io n ds) with
 |none=>rw[e] at hf;cases hf
 |some o=>
  rw[e] at hf
  cases o with
  |rt d2=>cases hf;exact k
  |nx e2=>cases hf
  |bk e2=>cases hf
  |ct e2=>cases hf
theorem bK{n:Nat}{F:List D→Option D}{t:TA}{f:AF}{E:XK}(h:PuA K ns n t f):PuE K ns (jy (spP K ns .no n F) [] E t) (ap F f):=by
 intro L env σ H Q d he hf k
 obtain⟨a,ea,hf⟩:=bnd hf
 refine h L env σ H _ a he ea fun xs H1 hl S1 rx=>⟨Nw L H,a,d,hl,by rw[List.append_nil];exact rx,hf,fun v H2 S2 r=>k v H2 (S1.trans S2) (Rd.mono (fun _ q=>nw2 S1 q) .refl (show Rd K ns (Nw (Nw L H) H1) H2 v d from r))⟩
theorem dW{n:Nat}{F:List D→Option D}{t:TA}{f:AF}{E:XK}(h:PuA K ns n t f):PuF K ns (jy (spP K ns .yes n F) [] E t) (ap F f):=by
 intro L env σ H Q d he hf k
 obtain⟨a,ea,hf⟩:=bnd hf
 refine h L env σ H _ a he ea fun xs H1 hl S1 rx=>⟨Nw L H,a,d,hl,by rw[List.append_nil];exact rx,hf,fun v H2 S2 r=> ?_⟩
 obtain⟨p,us,ds,rfl,ed,hp,hl2,rr⟩:=(show ∃p us ds,v= .ref p∧d= .lst ds∧H1 p=none∧H2 p=some (.lst us)∧Rds K ns (fun a=>Nw (Nw L H) H1 a∧a≠p) H2 us ds from r)
 exact k p us ds H2 ed (S1.trans S2) (gG S1 hp) hl2 (rr.mono (fun _ q=>⟨nw2 S1 q.1,q.2⟩) .refl)
theorem B4{F:List D→Option D}{vs:List V}{H:Hp}{Q:VK}{E:XK}{a:Addr}{xs:List Int}(e:vs=[.ref a])(hs:SqL K H a (xs.map V.int))(hF:∀d,(d= .lst (xs.map D.int)∨d= .fz (xs.map D.int))→F [d]=some (.bl true))(k:∀H',Q (.bl true) H'):spP K ns .no 1 F vs H Q E:=by
 have rd:Rds K ns (fun _=>True) H (xs.map V.int) (xs.map D.int):=by
  clear hs hF
  induction xs with
  |nil=>exact .nil
  |cons x r ih=>exact .cons (.int x) ih
 subst e
 have fin:∀v H',Same H H'→Res K ns .no (fun _=>True) H H' v (.bl true)→Q v H':=fun v H' S r=>by
  have r':Rd K ns (Nw (fun _=>True) H) H' v (.bl true):=r
  cases r'
  exact k H'
 rcases hs with(h|h)|h
 · exact⟨fun _=>True,[.lst (xs.map D.int)],_,rfl, .cons (.lst trivial h rd) .nil,hF _ (.inl rfl),fin⟩
 · exact⟨fun _=>True,[.fz (xs.map D.int)],_,rfl, .cons (.fz (.inl h) rd) .nil,hF _ (.inr rfl),fin⟩
 · exact⟨fun _=>True,[.fz (xs.map D.int)],_,rfl, .cons (.fz (.inr h) rd) .nil,hF _ (.inr rfl),fin⟩
end
end PD
namespace PD
open PySem L2
theorem nF{K:W.Frag}{A B:String}{b:Bool}(hn:(Value.type A==Value.type B)=false:=by decide+kernel)(h1:W.kitMeta B=true:=by decide+kernel)(h2:((fastBuiltinMro A).map (·.contains (Value.type B)))=some b:=by decide+kernel):W.kitOne K (.type A) (.type B)=some b:=by
 show (if(Value.type A==Value.type B)=true then some true else if W.kitMeta B=true then W.subIn K (.type A) (.type B) else none)=some b
 rw[hn,if_neg Bool.false_ne_true,if_pos h1]
 exact h2
section
variable{K:W.Frag}{ns:List Str}
def okT(T:String):Bool:=T=="int"||T=="bool"||T=="str"||T=="list"||T=="tuple"
theorem zG{d:D}(h1:∀xs,d≠ .kt xs)(h3:∀c fs,d≠ .ob c fs):W.kitOne K (.type d.ty) (.type "int")=some (qb d.ty "int"):=by
 cases d<;>first|exact absurd rfl (h1 _)|exact absurd rfl (h3 _ _)|rfl|exact nF
theorem xo{d:D}(h1:∀xs,d≠ .kt xs)(h3:∀c fs,d≠ .ob c fs):W.kitOne K (.type d.ty) (.type "bool")=some (qb d.ty "bool"):=by
 cases d<;>first|exact absurd rfl (h1 _)|exact absurd rfl (h3 _ _)|rfl|exact nF
theorem zH{d:D}(h1:∀xs,d≠ .kt xs)(h3:∀c fs,d≠ .ob c fs):W.kitOne K (.type d.ty) (.type "str")=some (qb d.ty "str"):=by
 cases d<;>first|exact absurd rfl (h1 _)|exact absurd rfl (h3 _ _)|rfl|exact nF
theorem xp{d:D}(h1:∀xs,d≠ .kt xs)(h3:∀c fs,d≠ .ob c fs):W.kitOne K (.type d.ty) (.type "list")=some (qb d.ty "list"):=by
 cases d<;>first|exact absurd rfl (h1 _)|exact absurd rfl (h3 _ _)|rfl|exact nF
theorem vz{d:D}(h1:∀xs,d≠ .kt xs)(h3:∀c fs,d≠ .ob c fs):W.kitOne K (.type d.ty) (.type "tuple")=some (qb d.ty "tuple"):=by
 cases d<;>first|exact absurd rfl (h1 _)|exact absurd rfl (h3 _ _)|rfl|exact nF
theorem pz{T:String}(h:okT T=true){d:D}(h1:∀xs,d≠ .kt xs)(h3:∀c fs,d≠ .ob c fs):W.kitOne K (.type d.ty) (.type T)=some (qb d.ty T):=by
 unfold okT at h
 simp only[Bool.or_eq_true,beq_iff_eq] at h
 rcases h with(((h|h)|h)|h)|h<;>subst h
 · exact zG h1 h3
 · exact xo h1 h3
 · exact zH h1 h3
 · exact xp h1 h3
 · exact vz h1 h3
theorem DK{T:String}(h:okT T=true){C:Addr}{ms fs:List Str}(p:PKd K ns C ms fs):W.kitOne K (.ref C) (.type T)=some false:=by
 unfold okT at h
 simp only[Bool.or_eq_true,beq_iff_eq] at h
 rcases h with(((h|h)|h)|h)|h<;>subst h<;>exact p.notT _
theorem xq{t:TE}{f:VF}(T:String)(hT:okT T=true)(h:PuE K ns t f):PuE K ns (tCB (Eh K) (bO t (bO (tC (.ty T)) iC))) (ap (isT T) (ae f ao)):=by
 intro L env σ H Q d he hf k
 obtain⟨as,eas,hf⟩:=bnd hf
 obtain⟨a,ea,e2⟩:=bnd eas
 cases e2
 clear eas
 refine h L env σ H _ a he ea fun x H1 S1 r=> ?_
 cases r with
 | @ob a dx gs c fs l e kk r=>
   cases hf
   have e0:qb (D.ob c fs).ty T=false:=by
    unfold okT at hT
    simp only[Bool.or_eq_true,beq_iff_eq] at hT
    show qb "object" T=false
    rcases hT with(((h|h)|h)|h)|h<;>subst h<;>decide
   rw[e0] at k
   exact⟨_,_,_,_,rfl,PKd.ty kk e,DK hT kk,k _ _ S1 (.bl _)⟩
 |kt e r=>cases hf
 |fz e r=>cases hf
 |dk l e r=>cases hf
 |dt l e r=>cases hf
 |non=>cases hf;exact⟨_,_,_,_,rfl, .non,pz hT (d:= .non) (fun _ z=>by cases z) (fun _ _ z=>by cases z),k _ _ S1 (.bl _)⟩
 |bl b=>cases hf;exact⟨_,_,_,_,rfl, .bl b,pz hT (d:= .bl b) (fun _ z=>by cases z) (fun _ _ z=>by cases z),k _ _ S1 (.bl _)⟩
 |int b=>cases hf;exact⟨_,_,_,_,rfl, .int b,pz hT (d:= .int b) (fun _ z=>by cases z) (fun _ _ z=>by cases z),k _ _ S1 (.bl _)⟩
 |str b=>cases hf;exact⟨_,_,_,_,rfl, .str b,pz hT (d:= .str b) (fun _ z=>by cases z) (fun _ _ z=>by cases z),k _ _ S1 (.bl _)⟩
 | @tup a vs ds e r=>cases hf;exact⟨_,_,_,_,rfl, .tup e,pz hT (d:= .tup ds) (fun _ z=>by cases z) (fun _ _ z=>by cases z),k _ _ S1 (.bl _)⟩
 | @lst a vs ds l e r=>cases hf;exact⟨_,_,_,_,rfl, .lst e,pz hT (d:= .lst ds) (fun _ z=>by cases z) (fun _ _ z=>by cases z),k _ _ S1 (.bl _)⟩
def Cl.un(x:Str):Option Cl:=if x="Open" then some .Open else if x="Bridge" then some .Bridge else if x="Road" then some .Road else if x="Cart" then some .Cart else if x="Trip" then some .Trip else if x="Day" then some .Day else none
theorem Cl.un_s(c:Cl):Cl.un c.s=some c:=by cases c<;>decide
theorem Cl.inj{c d:Cl}(h:c.s=d.s):c=d:=Option.some.inj (by rw[←Cl.un_s c,←Cl.un_s d,h])
def pA(c:Cl)(I:List D→Option (List (Fl×D)))(f:AF):VF:=fun env=>(f env).bind fun ds=>(I ds).map (.ob c)
def rE:List (Fl×VF)→Env→Option (List (Fl×D))
 |[],_=>some []
 |(f,e)::r,env=>(e env).bind fun d=>(rE r env).map ((f,d):: ·)
def AO(l:List (Fl×VF))(ds:List D):Option (List (Fl×D)):=rE l (none::ds.map some)
def spI(K:W.Frag)(ns:List Str)(c:Cl)(n:Nat)(I:List D→Option (List (Fl×D))):Sp:=fun vs H Q _=>∃(x dx:Addr) (us:List V) (L:Addr→Prop) (ds:List D) (fs:List (Fl×D)),vs= .ref x::us∧ds.length=n∧H x=some (.ins (clA K c.s) dx [])∧¬L x∧CF K ns c∧Rds K ns L H us ds∧I ds=some fs∧
 ∀H' gs,(∀b o,b≠x→H b=some o→H' b=some o)→H' x=some (.ins (clA K c.s) dx gs)→Rfs K ns (Nw L H) H' gs fs→Q .non H'
theorem uu{n:Nat}{I:List D→Option (List (Fl×D))}{t:TA}{f:AF}{E:XK}(c:Cl)(d:CF K ns c)(h:PuA K ns n t f):PuE K ns (v4 (clA K c.s) (spI K ns c n I) [] E t) (pA c I f):=by
 intro L env σ H Q r he hf k
 obtain⟨as,ea,hf⟩:=bnd hf
 obtain⟨fs,ef,rfl⟩:=Option.map_eq_some_iff.mp hf
 refine h L env σ H _ as he ea fun vs H1 hl S1 rv x dx hx hd hne=> ?_
 have up:∀b o,H1 b=some o→upd (upd H1 dx (.own x)) x (.ins (clA K c.s) dx []) b=some o:=fun b o e=>by rw[aJ (aG e hx),aJ (aG e hd)];exact e
 refine⟨x,dx,vs,fun a=>Nw L H a∧a≠x,as,fs,by rw[List.append_nil],hl,aI,fun q=>q.2 rfl,d,rv.mono2 (fun a o e l=>⟨l,aG e hx⟩) (.of up),ef,fun H' gs kp e' rf=>⟨rfl, ?_⟩⟩
 have up2:Same H1 H':=fun b o e=>kp b o (aG e hx) (up b o e)
 refine k _ _ (S1.trans up2) (.ob (.inr (gG S1 hx)) e' d (rf.mono2 (fun a o e l=> ?_) .refl))
 rcases l with l|l
 · exact l.1
 · refine .inr (gG S1 ?_)
   cases z:H1 a with
   |none=>rfl
   |some o'=>rw[up a o' z] at l;cases l
def Fl.un(x:Str):Option Fl:=([.length, .name, .bears, .wide, .most, .pieces, .rounds, .shuts, .speed, .wheels, .cart, .way, .start, .crossings, .ended, .road, .loads, .sends]:List Fl).find? fun f=>decide (f.s=x)
theorem Fl.un_s(f:Fl):Fl.un f.s=some f:=by cases f<;>decide
theorem Fl.inj{c d:Fl}(h:c.s=d.s):c=d:=Option.some.inj (by rw[←Fl.un_s c,←Fl.un_s d,h])
def PuN(K:W.Frag)(ns:List Str)(C:Addr)(t:TS)(l:List (Fl×VF)):Prop:=∀(L:Addr→Prop) (env:Env) (σ:St) (H:Hp) (E:Ends) (x dx:Addr) (gs:List (Str×V)) (fs fs':List (Fl×D)),σ[0]? =some (some (.ref x))→H x=some (.ins C dx gs)→¬L x→Cls K C→(∀f∈l,NoAttr K C f.1.s)→gs.length+l.length<900→(fs.map Prod.fst++l.map Prod.fst).Nodup→EnvR K ns L env σ H→Rfs K ns L H gs fs→rE l env=some fs'→
 (∀H' gs',(∀b o,b≠x→H b=some o→H' b=some o)→H' x=some (.ins C dx gs')→gs'.length≤gs.length+l.length→Rfs K ns (Nw L H) H' gs' (fs++fs')→E.nx σ H')→t E σ H
theorem rF{f:Str}{v:V}:∀{gs:List (Str×V)},(iB f v gs).length≤gs.length+1
 |[]=>Nat.le_refl _
 |(g,x)::r=>by
  unfold iB
  split
  · exact Nat.le_succ _
  · exact Nat.succ_le_succ rF
theorem zI{L:Addr→Prop}{H:Hp}{f:Fl}{v:V}{gs:List (Str×V)}{fs:List (Fl×D)}(h:Rfs K ns L H gs fs):f∉fs.map Prod.fst→Rfs K ns L H (iB f.s v gs) fs:=by
 induction fs with
 |nil=>intro _;exact .nil
 |cons g fs ih=>
  intro hn
  cases h with
  |cons e h t=>
   refine .cons ?_ h (ih t fun q=>hn (List.mem_cons_of_mem _ q))
   rw[gC,if_neg fun z=>hn (by rw[Fl.inj z];exact List.mem_cons_self)]
   exact e
theorem zJ{L:Addr→Prop}{H:Hp}{gs:List (Str×V)}{fs es:List (Fl×D)}(h:Rfs K ns L H gs fs)(s:Rfs K ns L H gs es):Rfs K ns L H gs (fs++es):=by
 induction fs with
 |nil=>exact s
 |cons g fs ih=>
  cases h with
  |cons e h t=>exact .cons e h (ih t)
theorem sX{C:Addr}{te:TE}{fe:VF}(f:Fl)(h:PuE K ns te fe):PuN K ns C (Dd K (iX 0) te f.s) [(f,fe)]:=by
 intro L env σ H E x dx gs fs fs' hs hx hl cl na hlen nd he rf hi k
 obtain⟨d,ed,hi⟩:=bnd hi
 cases hi
 refine h L env σ H _ d he ed fun v H1 S1 rv=>⟨_,hs,x,C,dx,gs,rfl,S1 _ _ hx,cl,na _ (List.mem_singleton.mpr rfl),by simp only[List.length_singleton] at hlen;omega, ?_⟩
 have np:¬Nw L H x:=fun q=>q.elim hl fun z=>by rw[hx] at z;cases z
 have kp:KeepL (Nw L H) H1 (upd H1 x (.ins C dx (iB f.s v gs))):=fun a o e hm=>by
  by_cases z:a=x
  · subst z
    rw[S1 _ _ hx] at e
    cases e
    exact absurd (hm rfl) np
  · rw[aJ z];exact e
 have nf:f∉fs.map Prod.fst:=fun q=>by
  have:=(List.nodup_append.mp nd).2.2 _ q f (List.mem_singleton.mpr rfl)
  exact this rfl
 refine k _ _ (fun b o hb e=>by rw[aJ hb];exact S1 _ _ e) aI (by simpa using rF) ?_
 refine zJ ((zI rf nf).mono (fun _=> .inl) (fun a o e hm=> ?_)) (.cons (by rw[gC,if_pos rfl]) (rv.mono (fun _ q=>q) kp) .nil)
 exact kp a o (S1 _ _ e) fun q=> .inl (hm q)
theorem xr{C:Addr}{t u:TS}{a:Fl×VF}{r:List (Fl×VF)}(h1:PuN K ns C t [a])(h2:PuN K ns C u r):PuN K ns C (oG t u) (a::r):=by
 intro L env σ H E x dx gs fs fs' hs hx hl cl na hlen nd he rf hi k
 obtain⟨f,fe⟩:=a
 obtain⟨d,ed,hi⟩:=bnd hi
 obtain⟨rest,er,rfl⟩:=Option.map_eq_some_iff.mp hi
 have nd':(fs.map Prod.fst++[f]).Nodup∧((fs++[(f,d)]).map Prod.fst++r.map Prod.fst).Nodup:=by
  rw[List.map_cons] at nd
  have e:fs.map Prod.fst++f::r.map Prod.fst=(fs.map Prod.fst++[f])++r.map Prod.fst:=by simp
  rw[e] at nd
  exact⟨(List.nodup_append.mp nd).1,by simpa using nd⟩
 refine h1 L env σ H _ x dx gs fs [(f,d)] hs hx hl cl (fun g hg=>na g (by rw[List.mem_singleton.mp hg];exact List.mem_cons_self)) (by simp only[List.length_cons] at hlen;simp only[List.length_singleton];omega) nd'.1 he rf (by show (fe env).bind _=_;rw[ed];rfl) fun H1 gs1 kp1 hx1 hl1 rf1=> ?_
 have np:¬Nw L H x:=fun q=>q.elim hl fun z=>by rw[hx] at z;cases z
 have hk:KeepL L H H1:=fun a o e hm=>by
  by_cases z:a=x
  · subst z
    rw[hx] at e
    cases e
    exact absurd (hm rfl) hl
  · exact kp1 a o z e
 refine h2 (Nw L H) env σ H1 E x dx gs1 (fs++[(f,d)]) rest hs hx1 np cl (fun g hg=>na g (List.mem_cons_of_mem _ hg)) (by simp only[List.length_cons,List.length_nil] at hlen hl1 ⊢;omega) nd'.2 (fun i d' e=>by
  obtain⟨v,q,rr⟩:=he i d' e
  exact⟨v,q,rr.mono (fun _=> .inl) hk⟩) rf1 er fun H2 gs2 kp2 hx2 hl2 rf2=> ?_
 refine k H2 gs2 (fun b o hb e=>kp2 b o hb (kp1 b o hb e)) hx2 (by simp only[List.length_cons,List.length_nil] at hl1 hl2 ⊢;omega) ?_
 rw[List.append_assoc] at rf2
 refine rf2.mono (fun a q=> ?_) .refl
 rcases q with q|q
 · exact q
 · by_cases z:a=x
   · subst z;rw[hx1] at q;cases q
   · refine .inr ?_
     cases w:H a with
     |none=>rfl
     |some o=>rw[kp1 a o z w] at q;cases q
theorem zK{c:Cl}{t:TS}{l:List (Fl×VF)}{n:Nat}{N:List Str}{vs:List V}{H:Hp}{Q:VK}{E:XK}(h:PuN K ns (clA K c.s) t l)(hf:l.map Prod.fst=c.fs)(hN:N.length=n+1)(s:spI K ns c n (AO l) vs H Q E):t {nx:=fun _ H'=>Q .non H',rt:=Q} (start N vs) H:=by
 obtain⟨x,dx,us,L,ds,fs,rfl,hl,hx,nl,cf,r,ei,k⟩:=s
 have hlen:l.length<800:=by
  have:=congrArg List.length hf
  rw[List.length_map] at this
  rw[this]
  cases c<;>decide
 have nd:(l.map Prod.fst).Nodup:=by rw[hf];cases c<;>decide
 have st:start N (.ref x::us)=some (.ref x)::us.map some:=by
  unfold L2.start
  have:N.length-(V.ref x::us).length=0:=by rw[List.length_cons,r.len];omega
  rw[this]
  simp
 rw[st]
 refine h L (none::ds.map some) _ H _ x dx [] [] fs rfl hx nl cf.cls (fun f hf'=>cf.na _ ?_) (by show 0+l.length<900;omega) (by simpa using nd) (fun i d e=> ?_) .nil ei fun H' gs kp hx' _ rf=>k H' gs kp hx' (by simpa using rf)
 · rw[←hf,List.map_map]
   exact List.mem_map.mpr ⟨f,hf',rfl⟩
 · cases i with
   |zero=>cases e
   |succ i=>
    have e':(ds.map some)[i]? =some (some d):=e
    rw[List.getElem?_map] at e'
    obtain⟨d',hd,e'⟩:=Option.map_eq_some_iff.mp e'
    cases e'
    obtain⟨v,hv,rv⟩:=r.get hd
    exact⟨v,by show (us.map some)[i]? =_;rw[List.getElem?_map,hv];rfl,rv⟩
theorem zL{c:Cl}{n:Nat}{I:List D→Option (List (Fl×D))}{vs:List V}{H:Hp}{Q:VK}{E:XK}(h:spI K ns c n I vs H Q E):vs.length=n+1:=by
 obtain⟨x,dx,us,L,ds,fs,rfl,hl,_,_,_,r,_⟩:=h
 rw[List.length_cons,r.len,hl]
def sY:Nat→Nat→TGs
 |_,0=>Bi
 |j,n+1=>vT (iD j) (sY (j+1) n)
theorem uv{Q:St→Hp→Prop}{H:Hp}{c:St}:∀(n:Nat) (pre xs:List V),xs.length=n→Q ((pre++xs).map some++c) H→sY pre.length n xs (pre.map some++(List.replicate n none++c)) H Q
 |0,pre,[],_,q=>⟨rfl,by simpa using q⟩
 |n+1,pre,x::xs,hl,q=>by
  refine⟨x,xs,rfl, ?_⟩
  show sY (pre.length+1) n xs ((pre.map some++(List.replicate (n+1) none++c)).set pre.length (some x)) H Q
  have e:(pre.map some++(List.replicate (n+1) none++c)).set pre.length (some x)=(pre++[x]).map some++(List.replicate n none++c):=by
   rw[List.set_append_right _ _ (by simp)]
   simp[List.replicate_succ]
  rw[e]
  have:=uv (Q:=Q) (H:=H) (c:=c) n (pre++[x]) xs (by simpa using hl) (by simpa using q)
  simpa using this
def jG(kx:Nat)(fc:BF)(fe:VF)(caps:Env):List D→Option (List D)
 |[]=>some []
 | .tup ds::xs=>if ds.length=kx then(fc (ds.map some++caps)).bind fun b=>if b=true then(fe (ds.map some++caps)).bind fun y=>(jG kx fc fe caps xs).map (y:: ·) else jG kx fc fe caps xs else none
 |_=>none
def uw(kx:Nat)(fi:AF)(fc:BF)(fe:VF)(cap:List Nat):VF:=fun env=>(fi env).bind fun ds=>if ds.length<1000000 then(jG kx fc fe (ke cap env) ds).map .lst else none
theorem xt{L:Addr→Prop}{env:Env}{σ:St}{H:Hp}{xs:List V}{ds:List D}{cap:List Nat}(he:EnvR K ns L env σ H)(hx:Rds K ns L H xs ds):EnvR K ns L (ds.map some++ke cap env) (xs.map some++cap.map fun i=>(σ[i]?).join) H:=by
 intro i d e
 by_cases hi:i<ds.length
 · rw[List.getElem?_append_left (by simpa using hi),List.getElem?_map] at e
   obtain⟨d',hd,e⟩:=Option.map_eq_some_iff.mp e
   cases e
   obtain⟨v,hv,rv⟩:=hx.get hd
   exact⟨v,by rw[List.getElem?_append_left (by rw[List.length_map,hx.len];exact hi),List.getElem?_map,hv];rfl,rv⟩
 · rw[List.getElem?_append_right (by simpa using hi),List.length_map] at e
   have q:=ut (cap:=cap) (x:= .non) he .non (i-ds.length+1) d e
   obtain⟨v,hv,rv⟩:=q
   refine⟨v, ?_,rv⟩
   rw[List.getElem?_append_right (by rw[List.length_map,hx.len];omega),List.length_map,hx.len]
   exact hv
theorem xu{kx:Nat}{wi:TI}{tc:TT}{te:TE}{fi:AF}{fc:BF}{fe:VF}{cap:List Nat}(hi:PuI K ns wi fi)(hc:PuT K ns tc fc)(he:PuE K ns te fe):PuF K ns (sN wi kx (yX K kx (sY 0 kx)) tc te cap) (uw kx fi fc fe cap):=by
 intro L env σ H Q d hE hf k
 obtain⟨ds,ei,hf⟩:=bnd hf
 split at hf
 case isFalse=>cases hf
 rename_i hn
 obtain⟨out,eo,rfl⟩:=Option.map_eq_some_iff.mp hf
 refine hi L env σ H _ ds hE ei fun J H1 S1 it=> ?_
 intro acc ha
 have hacc:H acc=none:=gG S1 ha
 have E1:EnvR K ns (Lx L H acc) env σ H1:=(hE.mono2 (L':=Lx L H acc) (fun a o e l=>⟨.inl l,aG e hacc⟩) .refl).same S1
 refine⟨fun i m H2=>m=ds.length-i∧i≤ds.length∧Same H1 H2∧∃ys dn rest,H2 acc=some (.lst ys)∧Rds K ns (Lx L H acc) H2 ys dn∧ys.length≤i∧jG kx fc fe (ke cap env) (ds.drop i)=some rest∧dn++rest=out,⟨_,rfl,Nat.zero_le _,aV ha _,[],[],out,aI, .nil,Nat.le_refl _,by rw[List.drop_zero];exact eo,rfl⟩, ?_⟩
 rintro i m H2 ⟨rfl,hle,S2,ys,dn,rest,ea,rd,hy,ec,ed⟩
 obtain⟨go,stop⟩:=it (Lx L H acc) i H2 (fun a o e l=>⟨l,aG e ha⟩) (.of S2)
 by_cases hlt:i<ds.length
 · obtain⟨g,yl⟩:=go ds[i] (List.getElem?_eq_getElem hlt)
   refine .inr ⟨g,fun x H3 y=> ?_⟩
   obtain⟨S3,rx⟩:=yl x H3 y
   have ea3:=S3 _ _ ea
   have rx2:Rd K ns (Lx L H acc) H3 x ds[i]:=rx.mono2 (fun a o e l=>by
    rcases l with l|l
    · exact l
    · exact⟨.inr (gG (S1.trans S2) l),fun z=>by rw[z,ea] at l;cases l⟩) .refl
   rw[List.drop_eq_getElem_cons hlt] at ec
   generalize ds[i]=di at rx2 ec
   cases di<;>first|(cases ec;done)|skip
   rename_i es
   rw[jG] at ec
   split at ec
   case isFalse=>cases ec
   rename_i hk
   cases rx2 with
   |tup et rt=>
    rename_i ta vs
    have hvl:vs.length=kx:=by rw[rt.len,hk]
    refine⟨_,vs,rfl,SqT.of et,hvl, ?_⟩
    have base:sY 0 kx vs (List.replicate kx none++cap.map fun i=>(σ[i]?).join) H3=sY ([]:List V).length kx vs (([]:List V).map some++(List.replicate kx none++cap.map fun i=>(σ[i]?).join)) H3:=rfl
    show sY 0 kx vs (List.replicate kx none++cap.map fun i=>(σ[i]?).join) H3 _
    rw[base]
    refine uv kx [] vs hvl ⟨⟨by simp[kJ,hvl],fun j v hj=> ?_⟩, ?_⟩
    · unfold kJ at hj
      by_cases hjk:j<kx
      · rw[List.getElem?_append_left (by simpa using hjk)] at hj
        have:=List.eq_of_mem_replicate (List.mem_of_getElem? hj)
        cases this
      · rw[List.getElem?_append_right (by simpa using hjk),List.length_replicate] at hj
        rw[List.nil_append,List.getElem?_append_right (by rw[List.length_map,hvl];omega),List.length_map,hvl]
        exact hj
    have E3:EnvR K ns (Lx L H acc) (es.map some++ke cap env) (([]++vs).map some++cap.map fun i=>(σ[i]?).join) H3:=xt ((E1.same S2).same S3) rt
    obtain⟨b,eb,ec⟩:=bnd ec
    refine hc _ _ _ _ _ b E3 eb fun H4 S4=> ?_
    have ea4:=S4 _ _ ea3
    cases b with
    |false=>
     rw[if_neg Bool.false_ne_true] at ec ⊢
     exact⟨ds.length-(i+1),by omega,rfl,hlt,S2.trans (S3.trans S4),ys,dn,rest,ea4,rd.same (S3.trans S4),by omega,ec,ed⟩
    |true=>
     rw[if_pos rfl] at ec ⊢
     obtain⟨y,ey,ec⟩:=bnd ec
     obtain⟨rest',er,rfl⟩:=Option.map_eq_some_iff.mp ec
     refine he _ _ _ _ _ y (E3.same S4) ey fun v H5 S5 rv=> ?_
     have ea5:=S5 _ _ ea4
     have SS:=S3.trans (S4.trans S5)
     have up:∀{L3:Addr→Prop},¬L3 acc→KeepL L3 H5 (upd H5 acc (.lst (ys++[v]))):=fun {L3} hl a o e hm=>by
      by_cases z:a=acc
      · subst z
        rw[ea5] at e
        cases e
        exact absurd (hm rfl) hl
      · rw[aJ z];exact e
     have rv2:Rd K ns (Lx L H acc) H5 v y:=rv.mono2 (fun a o e l=>by
      rcases l with l|l
      · exact l
      · exact⟨.inr (gG (S1.trans (S2.trans (S3.trans S4))) l),fun z=>by rw[z,ea4] at l;cases l⟩) .refl
     refine⟨ys,ea5,Nat.lt_of_le_of_lt hy (Nat.lt_trans hlt (Nat.lt_trans hn (by decide))),ds.length-(i+1),by omega,rfl,hlt,fun a o e=> ?_,ys++[v],dn++[y],rest',aI, ?_, ?_,er,by rw[←ed];simp⟩
     · rw[aJ (aG e ha)]
       exact SS _ _ (S2 _ _ e)
     · exact((rd.same SS).append (.cons rv2 .nil)).mono (fun _ q=>q) (up fun q=>q.2 rfl)
     · rw[List.length_append,List.length_singleton];omega
 · have hi':ds.length=i:=by omega
   refine .inl ⟨stop hi', ?_⟩
   rw[List.drop_of_length_le (by omega)] at ec
   cases ec
   rw[List.append_nil] at ed
   subst ed
   exact k acc ys dn H2 rfl (S1.trans S2) hacc ea rd
end
end PD
namespace PD
open PySem L2
section
variable{K:W.Frag}{ns:List Str}
theorem oS{t:TE}{g:D→D→Option D}{a b:VF}(h:PuE K ns t (oD g a b)):PuE K ns t (oD (aa g) a b):=by rw[am];exact h
theorem uS{t:TE}{g:D→Option D}{a:VF}(h:PuE K ns t (uD g a)):PuE K ns t (uD (aa g) a):=by rw[am];exact h
theorem cS{t:TE}{g:List D→Option D}{a:AF}(h:PuE K ns t (ap g a)):PuE K ns t (ap (aa g) a):=by rw[am];exact h
theorem cSF{t:TE}{g:List D→Option D}{a:AF}(h:PuF K ns t (ap g a)):PuF K ns t (ap (aa g) a):=by rw[am];exact h
theorem slS{t:TE}{g:D→Option Int→Option Int→Option D}{a:VF}{b c:OF}(h:PuE K ns t (slD g a b c)):PuE K ns t (slD (aa g) a b c):=by rw[am];exact h
theorem iS{t:TI}{g:List D→Option (List D)}{a:AF}(h:PuI K ns t (iaD g a)):PuI K ns t (iaD (aa g) a):=by rw[am];exact h
end
end PD
namespace L2
open PySem PySem.Spec PyProof.Rows
section
variable{X:Cx}
theorem B5{P w K mg base k x ps sp n e es t p pos}(g:Got P w K mg base k x ps sp)(e1:X.prog=P)(e2:X.w=w)(e3:X.K=K)(e4:X.mg=mg)(e5:X.base=base)(hr:Room n X.A)(hk:k≤n)(hg:Gl X x)(ha:PA X (e::es) t)(hdb:(x==("__debug__":Str))=false:=by decide)
 (he:starEach (e::es) X.env=(false,eval e X.env)::starEach es X.env:=by rfl)(hpl:(backTo pos (starEach es X.env)).any (·.1)=false:=by rfl):
 PE X (.Call (.Name x p) (e::es) [] pos) (jy sp [] E0 t):=by
 subst e1 e2 e3 e4 e5
 exact bb g hr hk hg ha hdb he hpl
end
end L2
namespace PD
open PySem L2
section
variable{K:W.Frag}{ns:List Str}{L:Addr→Prop}{H:Hp}
end
end PD
namespace PD
open PySem L2
section
variable{K:W.Frag}{ns:List Str}
end
end PD
namespace L2
open PySem PySem.Spec PyProof.Rows
section
variable{prog:Program}{w:World}{A:Around}{R:Result→Shared→Prop}{J:Addr}{fp wr:List Addr}{G:Array GenState→Array GenState→Prop}{n:Nat}{P:Nat→Value→Prop}{St:Nat→Shared→Prop}
end
section
variable{prog:Program}{w:World}{A:Around}{E:Value→Shared→Prop}{s:Shared}
end
section
variable{X:Cx}
end
section
variable{prog:Program}{w:World}{A:Around}{E:Value→Shared→Prop}{s:Shared}
abbrev IsZ(h:Heap)(z ti to_:Addr)(f0 f1:Value):Prop:=h.get? z=some {cls:= .type "zip",dict:=none,data:= .fields #[f0,f1, .bool false, .ref ti, .ref to_],slots:= #[]}
structure ZM(h:Heap)(z ti to_ j1 j2 l1 l2:Addr)(i:Nat)(f0 f1 a b:Value)(vs us:Array Value):Prop where
 z:IsZ h z ti to_ f0 f1
 ti:IsPair h ti (.ref j1) (.ref j2)
 to_:IsPair h to_ a b
 j1:h.IsListIter j1 l1 i
 j2:h.IsTupleIter j2 l2 i
 t1:h.IsList l1 vs
 t2:h.IsTuple l2 us
theorem xx{z ti to_ j1 j2 t1 t2:Addr}{i:Nat}{vs us:Array Value}{x y a b:Value}{Q:Value→Shared→Prop}(D:ZipApart z ti to_ j1 j2 t1 t2)(Z:ZM s.heap z ti to_ j1 j2 t1 t2 i .none (.bool false) a b vs us)(ex:vs[i]? =some x)(ey:us[i]? =some y)
 (k:∀h',IsZ h' z ti to_ (rawInt s.heap.objs.size) (.bool false)→IsPair h' to_ x y→h'.IsListIter j1 t1 (i+1)→h'.IsTupleIter j2 t2 (i+1)→IsPair h' s.heap.objs.size x y→
  (∀c o,c≠z→c≠to_→c≠j1→c≠j2→s.heap.get? c=some o→h'.get? c=some o)→Q (.ref s.heap.objs.size) {s with heap:=h'}):
 wpAny (model prog w) A (Builtin.«zip.__next__» ⟨[.ref z],[]⟩) (fun fin s'=>∃v,fin= .done (.ret v)∧Q v s') E s:=by
 show wpAny (model prog w) A (field (.ref z) 2>>=_) _ _ _
 refine wpAny_bind (wpAny_field (x:= .bool false) Z.z rfl rfl ?_)
 show wpAny (model prog w) A (field (.ref z) 3>>=_) _ _ _
 refine wpAny_bind (wpAny_field (x:= .ref ti) Z.z rfl rfl (wpAny_bind (wpAny_seqItems Z.ti rfl ?_)))
 show wpAny (model prog w) A (Builtin.SmallTypes.ownedTupleIsFree (.ref z)>>=_) _ _ _
 refine wpAny_bind ?_
 delta Builtin.SmallTypes.ownedTupleIsFree
 refine wpAny_bind (wpAny_field (x:= .none) Z.z rfl rfl (wpAny_pure ?_))
 simp only[if_true]
 refine wpAny_bind (wpAny_rule (wpAny_bind (wpAny_field (x:= .ref to_) Z.z rfl rfl ?_)))
 refine wpAny_bind (wpAny_setField_rec Z.z (by simp) fun g1 z1 m1=> ?_)
 replace z1:IsZ g1 z ti to_ .ellipsis (.bool false):=z1
 refine wpAny_bind ?_
 simp only[List.forIn_cons,List.forIn_nil,List.zipIdx_cons,List.zipIdx_nil]
 refine wpAny_bind (wpAny_bind (wpAny_onRaise ?_))
 show wpAny (model prog w) A (Builtin.SmallTypes.nextOf (.ref j1)>>=_) _ _ _
 refine wpAny_bind (wpAny_nextOf_list_item (Z.j1.extBut m1.extBut D.i1z) (Z.t1.extBut m1.extBut D.l1z) ex fun g2 k2 m2=>wpAny_pure ?_)
 have o2:IsPair g2 to_ a b:=m2.extBut _ _ D.TOi1 (m1.extBut _ _ D.TOz Z.to_)
 refine wpAny_bind (wpAny_seqItems o2 rfl (wpAny_bind (wpAny_updateSeq_pair o2 fun g3 o3 m3=> ?_)))
 replace o3:IsPair g3 to_ x b:=o3
 refine wpAny_bind (wpAny_letGo (wpAny_pure (wpAny_bind (wpAny_bind (wpAny_onRaise ?_)))))
 show wpAny (model prog w) A (Builtin.SmallTypes.nextOf (.ref j2)>>=_) _ _ _
 refine wpAny_bind (ku (((Z.j2.extBut m1.extBut D.i2z).extBut m2.extBut D.i12.symm).extBut m3.extBut D.TOi2.symm) (((Z.t2.extBut m1.extBut D.l2z).extBut m2.extBut D.l2i1).extBut m3.extBut D.l2TO) ey fun g4 k4 m4=>wpAny_pure ?_)
 have o4:IsPair g4 to_ x b:=m4.extBut _ _ D.TOi2 o3
 refine wpAny_bind (wpAny_seqItems o4 rfl (wpAny_bind (wpAny_updateSeq_pair o4 fun g5 o5 m5=> ?_)))
 replace o5:IsPair g5 to_ x y:=o5
 refine wpAny_bind (wpAny_letGo (wpAny_pure (wpAny_pure (wpAny_bind (wpAny_seqItems o5 rfl (wpAny_bind (wpAny_newTuple ?_)))))))
 have sz:g5.objs.size=s.heap.objs.size:=by rw[m5.1,m4.1,m3.1,m2.1,m1.1]
 have z5:IsZ g5 z ti to_ .ellipsis (.bool false):=m5.extBut _ _ D.TOz.symm (m4.extBut _ _ D.i2z.symm (m3.extBut _ _ D.TOz.symm (m2.extBut _ _ D.i1z.symm z1)))
 have kk:∀c o,c≠z→c≠to_→c≠j1→c≠j2→s.heap.get? c=some o→g5.get? c=some o:=fun c o c1 c2 c3 c4 e=>m5.extBut _ _ c2 (m4.extBut _ _ c4 (m3.extBut _ _ c2 (m2.extBut _ _ c3 (m1.extBut _ _ c1 e))))
 have a5:g5.IsListIter j1 t1 (i+1):=((k2.extBut m3.extBut D.TOi1.symm).extBut m4.extBut D.i12).extBut m5.extBut D.TOi1.symm
 have b5:g5.IsTupleIter j2 t2 (i+1):=k4.extBut m5.extBut D.TOi2.symm
 have lz:z<g5.objs.size:=Heap.lt_size z5
 show wpAny (model prog w) A (Builtin.SmallTypes.ownedTupleHandOut (.ref z) (.ref g5.objs.size)>>=_) _ _ _
 refine wpAny_bind ?_
 delta Builtin.SmallTypes.ownedTupleHandOut
 have z6:IsZ (g5.push {cls:= .type "tuple",data:= .seq #[x,y]}) z ti to_ .ellipsis (.bool false):=Heap.get?_push_of_some _ z5
 refine wpAny_bind (wpAny_setField_rec z6 (by simp) fun g7 z7 m7=> ?_)
 replace z7:IsZ g7 z ti to_ (rawInt g5.objs.size) (.bool false):=z7
 refine wpAny_setField_rec z7 (by simp) fun g8 z8 m8=> ?_
 replace z8:IsZ g8 z ti to_ (rawInt g5.objs.size) (.bool false):=z8
 have up:∀c o,c≠z→g5.get? c=some o→g8.get? c=some o:=fun c o c1 e=>m8.extBut _ _ c1 (m7.extBut _ _ c1 (Heap.get?_push_of_some _ e))
 have n8:IsPair g8 g5.objs.size x y:=m8.extBut _ _ (Nat.ne_of_gt lz) (m7.extBut _ _ (Nat.ne_of_gt lz) (Heap.get?_push_size _ rfl))
 rw[sz] at z8 n8
 refine wpAny_pure ⟨_,rfl, ?_⟩
 show Q (.ref g5.objs.size) _
 rw[sz]
 obtain⟨p1,e1,r1⟩:=a5
 obtain⟨p2,e2,r2⟩:=b5
 exact k g8 z8 (up _ _ D.TOz o5) ⟨p1,up _ _ D.i1z e1,r1⟩ ⟨p2,up _ _ D.i2z e2,r2⟩ n8 fun c o c1 c2 c3 c4 e=>up c o c1 (kk c o c1 c2 c3 c4 e)
theorem xy{z ti to_ j1 j2 t1 t2:Addr}{i:Nat}{vs us:Array Value}{x y a b:Value}{Q:Option Value→Shared→Prop}(D:ZipApart z ti to_ j1 j2 t1 t2)(Z:ZM s.heap z ti to_ j1 j2 t1 t2 i .none (.bool false) a b vs us)(ex:vs[i]? =some x)(ey:us[i]? =some y)
 (k:∀h',IsZ h' z ti to_ (rawInt s.heap.objs.size) (.bool false)→IsPair h' to_ x y→h'.IsListIter j1 t1 (i+1)→h'.IsTupleIter j2 t2 (i+1)→IsPair h' s.heap.objs.size x y→
  (∀c o,c≠z→c≠to_→c≠j1→c≠j2→s.heap.get? c=some o→h'.get? c=some o)→Q (some (.ref s.heap.objs.size)) {s with heap:=h'}):wpAny (model prog w) A (pyNext (.ref z)) Q E s:=by
 have ty:s.TypeIs (.ref z) "zip":=⟨_,Z.z,rfl⟩
 delta pyNext
 exact wpAny_bind (wpAny_attempt (wpAny_callSpecial?_slot (name:="__next__") ty F.slot_zip_next (wpAny_call_entry F.slot_zip_next ty F.entry_zip_next (xx D Z ex ey fun h' a1 a2 a3 a4 a5 a6=>wpAny_pure (k h' a1 a2 a3 a4 a5 a6)) (F.args_zip_next_1 _))))
end
abbrev mz1(h:Heap)(t1:Addr):Heap:=h.push {cls:= .type "list_iterator",data:= .fields #[.ref t1, .int 0 0]}
abbrev mz2(h:Heap)(t1 t2:Addr):Heap:=(mz1 h t1).push {cls:= .type "tuple_iterator",data:= .fields #[.ref t2, .int 0 0]}
abbrev mz3(h:Heap)(t1 t2:Addr):Heap:=(mz2 h t1 t2).push {cls:= .type "tuple",data:= .seq #[.ref h.objs.size, .ref (mz1 h t1).objs.size]}
abbrev mz4(h:Heap)(t1 t2:Addr):Heap:=(mz3 h t1 t2).push {cls:= .type "tuple",data:= .seq #[.none, .none]}
abbrev mz5(h:Heap)(t1 t2:Addr):Heap:=(mz4 h t1 t2).push {cls:= .type "zip",data:= .fields #[.none, .bool false, .bool false, .ref (mz2 h t1 t2).objs.size, .ref (mz3 h t1 t2).objs.size]}
theorem B6(t1 t2:Addr)(vs us:Array Value):Meets (Builtin.«zip.__new__» ⟨[.type "zip", .ref t1, .ref t2],[]⟩) (fun _ R s=>s.heap.IsList t1 vs∧s.heap.IsTuple t2 us∧R (.ok (.ret (.ref (mz4 s.heap t1 t2).objs.size))) {s with heap:=mz5 s.heap t1 t2}):=
 .of_wp fun prog w A R s h=>by
  obtain⟨hp,g,d,tk,os⟩:=s
  obtain⟨e1,e2,h⟩:=h
  have sub:=sub_zip
  have k1:Heap.IsList (Shared.heap ⟨hp,g,d,tk,os⟩) t1 vs:=e1
  have k2:Heap.IsTuple (Shared.heap ⟨hp.push {cls:= .type "list_iterator",data:= .fields #[.ref t1, .int 0 0]},g,d,tk,os⟩) t2 us:=Heap.IsTuple.push e2 _
  wp_walk using wpAny_pyIter_list k1,wpAny_pyIter_tuple k2
  exact⟨_,rfl,h⟩
section
variable{prog:Program}{w:World}{A:Around}{E:Value→Shared→Prop}{s:Shared}
theorem zM{t1 t2:Addr}{vs us:Array Value}{Q:Value→Shared→Prop}(e1:s.heap.IsList t1 vs)(e2:s.heap.IsTuple t2 us)
 (k:∀h',ZM h' (s.heap.objs.size+4) (s.heap.objs.size+2) (s.heap.objs.size+3) s.heap.objs.size (s.heap.objs.size+1) t1 t2 0 .none (.bool false) .none .none vs us→h'.objs.size=s.heap.objs.size+5→(∀c o,s.heap.get? c=some o→h'.get? c=some o)→Q (.ref (s.heap.objs.size+4)) {s with heap:=h'}):
 wpAny (model prog w) A (call (.type "zip") [.ref t1, .ref t2]) Q E s:=by
 refine callType_new F.called_zip (by decide) (F.typeCall_zip_2 _ _) (F.newCall_zip_2 _ _) (fun o=>F.args_object_init_3 o _ _) F.entry_zip_new (B6 t1 t2 vs us) ⟨e1,e2, ?_⟩
 have z1:(mz1 s.heap t1).objs.size=s.heap.objs.size+1:=Heap.size_push ..
 have z2:(mz2 s.heap t1 t2).objs.size=s.heap.objs.size+2:=by rw[Heap.size_push,z1]
 have z3:(mz3 s.heap t1 t2).objs.size=s.heap.objs.size+3:=by rw[Heap.size_push,z2]
 have z4:(mz4 s.heap t1 t2).objs.size=s.heap.objs.size+4:=by rw[Heap.size_push,z3]
 have z5:(mz5 s.heap t1 t2).objs.size=s.heap.objs.size+5:=by rw[Heap.size_push,z4]
 have up:∀c o,s.heap.get? c=some o→(mz5 s.heap t1 t2).get? c=some o:=fun c o e=>Heap.get?_push_of_some _ (Heap.get?_push_of_some _ (Heap.get?_push_of_some _ (Heap.get?_push_of_some _ (Heap.get?_push_of_some _ e))))
 have g5:(mz5 s.heap t1 t2).get? (mz4 s.heap t1 t2).objs.size=some _:=Heap.get?_push_size _ rfl
 have g4:(mz5 s.heap t1 t2).get? (mz3 s.heap t1 t2).objs.size=some _:=Heap.get?_push_of_some _ (Heap.get?_push_size _ rfl)
 have g3:(mz5 s.heap t1 t2).get? (mz2 s.heap t1 t2).objs.size=some _:=Heap.get?_push_of_some _ (Heap.get?_push_of_some _ (Heap.get?_push_size _ rfl))
 have g2:(mz5 s.heap t1 t2).get? (mz1 s.heap t1).objs.size=some _:=Heap.get?_push_of_some _ (Heap.get?_push_of_some _ (Heap.get?_push_of_some _ (Heap.get?_push_size _ rfl)))
 have g1:(mz5 s.heap t1 t2).get? s.heap.objs.size=some _:=Heap.get?_push_of_some _ (Heap.get?_push_of_some _ (Heap.get?_push_of_some _ (Heap.get?_push_of_some _ (Heap.get?_push_size _ rfl))))
 show _∧_
 rw[z4,z3,z2] at g5
 rw[z3] at g4
 rw[z2,z1] at g3
 rw[z1] at g2
 obtain⟨p1,x1,r1⟩:=e1
 obtain⟨p2,x2,r2⟩:=e2
 rw[z4]
 exact⟨⟨_,g5,rfl⟩,k (mz5 s.heap t1 t2) ⟨g5,g3,g4,⟨_,g1,rfl,rfl⟩,⟨_,g2,rfl,rfl⟩,⟨p1,up _ _ x1,r1⟩,⟨p2,up _ _ x2,r2⟩⟩ z5 up⟩
end
section
variable{X:Cx}{K:W.Frag}
def xz:TS:=fun _ _ _=>False
theorem nG{st:Stmt}:PS X st xz:=fun _ _ _ _ _ _ h=>h.elim
end
section
variable{prog:Program}{w:World}{A:Around}{E:Value→Shared→Prop}{s:Shared}
end
section
variable{X:Cx}
end
open Builtin Builtin.Str
section
variable{prog:Program}{w:World}{A:Around}{E:Value→Shared→Prop}{s:Shared}
theorem zN{x y:Str}{t u:Tok}{Q:Value→Shared→Prop}(hy:(y.length==0)=false)(h1:x.length≤sizeLine)(h2:(partsBetween x (occurrences x y 0 x.length (x.length+1)) y.length).length≤sizeLine)
 (q:∀(l:List (Str×Tok)) (tk:Nat),l.map (·.1)=Txt.split x y→Q (.ref s.heap.objs.size) {s with toks:=tk,heap:=s.heap.push {cls:= .type "list",data:= .seq (strValues l).toArray}}):
 wpAny (model prog w) A (call (.builtin "str.split") [.str x t, .str y u]) Q E s:=by
 cases c1:(decide (x.length<y.length)||decide (strKind x<strKind y)) with
 |true=>exact call_meets F.slot_str_split (typeIs_str _ _ _) F.entry_str_split (F.args_str_split_2 _ _) (meets_str_split_cannot_occur x y t u c1) (q [(x,t)] s.toks (if_pos c1).symm)
 |false=>
  cases c2:(occurrences x y 0 x.length (x.length+1)).isEmpty with
  |true=>exact call_meets F.slot_str_split (typeIs_str _ _ _) F.entry_str_split (F.args_str_split_2 _ _) (meets_str_split_not_found x y t u c1 hy c2) (q [(x,t)] s.toks ((if_neg (ne_true_of_eq_false c1)).trans (if_pos c2)).symm)
  |false=>
   refine call_meets F.slot_str_split (typeIs_str _ _ _) F.entry_str_split (F.args_str_split_2 _ _) (meets_str_split_sep x y t u c1 hy c2 h1 h2) ?_
   show wants Q E _ {s with toks:=_,heap:=s.heap.push {cls:= .type "list",data:= .seq (strsFrom s.toks (partsBetween x (occurrences x y 0 x.length (x.length+1)) y.length)).toArray}}
   rw[strsFrom_eq]
   exact q (numbered s.toks _) _ ((numbered_texts _ _).trans ((if_neg (ne_true_of_eq_false c1)).trans (if_neg (ne_true_of_eq_false c2))).symm)
end
theorem pB(x y:Str):(partsBetween x (occurrences x y 0 x.length (x.length+1)) y.length).length≤x.length+2:=by
 have h:=StrLaws.occ_length_le x y 0 x.length (x.length+1)
 unfold partsBetween
 rw[List.length_map,List.length_zip,List.length_cons,List.length_map,List.length_append,List.length_singleton,Nat.min_self]
 omega
theorem vA(x:Str)(c:Nat):(Txt.split x ⟨#[c]⟩).length≤x.length+2:=by
 unfold Txt.split
 split
 · rw[List.length_singleton];omega
 · split
   · rw[List.length_singleton];omega
   · exact pB x ⟨#[c]⟩
theorem pC:∀l:List (Str×Tok),Vals ((l.map (·.1)).map V.str) (strValues l)
 |[]=> .nil
 |(x,t)::l=> .cons ⟨t,rfl⟩ (pC l)
def xA:V→List V→Hp→VK→Prop:=fun x vs H Q=>∃(a:Str) (c:Nat),x= .str a∧vs=[.str ⟨#[c]⟩]∧a.length≤1000000∧∀l,H l=none→Q (.ref l) (upd H l (.lst ((Txt.split a ⟨#[c]⟩).map V.str)))
section
variable{X:Cx}
theorem nH:MtR X "str.split" xA:=by
 intro pins s σ H x vs v us Q I rx rv h
 obtain⟨a,c,rfl,rfl,hz,q⟩:=h
 obtain⟨t,rfl⟩:=rx
 obtain⟨u,rfl,t',rfl⟩:=rv.one
 have z1:(1000002:Nat)≤sizeLine:=by decide
 have hp:=pB a ⟨#[c]⟩
 have hs:=vA a c
 refine zN rfl (by omega) (by omega) fun l tk hl=> ?_
 refine⟨.ref s.heap.objs.size,_,I.laid (t':=tk) (fun b o e=>Heap.get?_push_of_some _ e) (Nat.le_refl _) (show ObjOk X.prog X.w _ _ _ (.lst ((Txt.split a ⟨#[c]⟩).map V.str)) from⟨by rw[List.length_map];omega,strValues l,0,by rw[←hl];exact pC l,Heap.get?_push_size _ rfl⟩),rfl,q _ (I.hok.fresh (Nat.le_refl _))⟩
theorem qk:CallR X (.type "str") (fun xs H Q=>∃z,xs=[.str z]∧Q (.str z) H):=by
 intro pins s σ H xs us Q I r h
 obtain⟨z,rfl,q⟩:=h
 obtain⟨u,rfl,t,rfl⟩:=r.one
 exact PySem.P.str_of_str ⟨.str z,H,I,⟨_,rfl⟩,q⟩
def AQ:List V→Hp→VK→Prop:=fun xs H Q=>(∃i,xs=[.int i]∧i.natAbs.log2<1920∧Q (.str (toString i)) H)∨∃z,xs=[.str z]∧Q (.str z) H
theorem ff:CallR X (.type "str") AQ:=pQ.or qk
end
section
variable{prog:Program}{w:World}{A:Around}{E:Value→Shared→Prop}{s:Shared}
theorem zO{z ti to_ j1 j2 t1 t2:Addr}{i:Nat}{vs us:Array Value}{a b:Value}{Q:Fin→Shared→Prop}(hA:A.handled=none)(D:ZipApart z ti to_ j1 j2 t1 t2)(Z:ZM s.heap z ti to_ j1 j2 t1 t2 i .none (.bool false) a b vs us)(en:vs[i]? =none)
 (k:∀h' e,(∀c o,c≠z→c≠to_→c≠j1→c≠j2→s.heap.get? c=some o→h'.get? c=some o)→(∃o,h'.get? e=some o∧o.cls= .type "StopIteration")→E (.ref e) {s with heap:=h'}):
 wpAny (model prog w) A (Builtin.«zip.__next__» ⟨[.ref z],[]⟩) Q E s:=by
 show wpAny (model prog w) A (field (.ref z) 2>>=_) _ _ _
 refine wpAny_bind (wpAny_field (x:= .bool false) Z.z rfl rfl ?_)
 show wpAny (model prog w) A (field (.ref z) 3>>=_) _ _ _
 refine wpAny_bind (wpAny_field (x:= .ref ti) Z.z rfl rfl (wpAny_bind (wpAny_seqItems Z.ti rfl ?_)))
 show wpAny (model prog w) A (Builtin.SmallTypes.ownedTupleIsFree (.ref z)>>=_) _ _ _
 refine wpAny_bind ?_
 delta Builtin.SmallTypes.ownedTupleIsFree
 refine wpAny_bind (wpAny_field (x:= .none) Z.z rfl rfl (wpAny_pure ?_))
 simp only[if_true]
 refine wpAny_bind (wpAny_rule (wpAny_bind (wpAny_field (x:= .ref to_) Z.z rfl rfl ?_)))
 refine wpAny_bind (wpAny_setField_rec Z.z (by simp) fun g1 z1 m1=> ?_)
 replace z1:IsZ g1 z ti to_ .ellipsis (.bool false):=z1
 refine wpAny_bind ?_
 simp only[List.forIn_cons,List.forIn_nil,List.zipIdx_cons,List.zipIdx_nil]
 refine wpAny_bind (wpAny_bind (wpAny_onRaise ?_))
 show wpAny (model prog w) A (Builtin.SmallTypes.nextOf (.ref j1)>>=_) _ _ _
 refine wpAny_bind (wpAny_nextOf_list_end hA (Z.j1.extBut m1.extBut D.i1z) (Z.t1.extBut m1.extBut D.l1z) en fun g2 e m2 he=> ?_)
 obtain⟨oe,ee,ce⟩:=he
 have z2:IsZ g2 z ti to_ .ellipsis (.bool false):=m2 _ _ D.i1z.symm z1
 have ne:e≠z:=fun q=>by subst q;rw[z2] at ee;cases ee;simp at ce
 exact wpAny_setField_rec z2 (by simp) fun g3 _ m3=>k g3 e (fun c o c1 _ c3 _ q=>m3.extBut _ _ c1 (m2 _ _ c3 (m1.extBut _ _ c1 q))) ⟨oe,m3.extBut _ _ ne ee,ce⟩
theorem xB{z ti to_ j1 j2 t1 t2:Addr}{i:Nat}{vs us:Array Value}{a b:Value}{Q:Option Value→Shared→Prop}(hA:A.handled=none)(D:ZipApart z ti to_ j1 j2 t1 t2)(Z:ZM s.heap z ti to_ j1 j2 t1 t2 i .none (.bool false) a b vs us)(en:vs[i]? =none)
 (k:∀h',(∀c o,c≠z→c≠to_→c≠j1→c≠j2→s.heap.get? c=some o→h'.get? c=some o)→Q none {s with heap:=h'}):wpAny (model prog w) A (pyNext (.ref z)) Q E s:=by
 have ty:s.TypeIs (.ref z) "zip":=⟨_,Z.z,rfl⟩
 delta pyNext
 refine wpAny_bind (wpAny_attempt (wpAny_callSpecial?_slot (name:="__next__") ty F.slot_zip_next (wpAny_call_entry F.slot_zip_next ty F.entry_zip_next (zO hA D Z en fun h' e kk he=> ?_) (F.args_zip_next_1 _))))
 obtain⟨oe,ee,ce⟩:=he
 exact wpAny_bind (wpAny_isInstance (T:="StopIteration") (b:=true) ⟨oe,ee,ce⟩ isSubtype_stop (wpAny_pure (k _ kk)))
end
def DL(K:W.Frag)(l1 l2:Addr):It:=
 ⟨fun i H=>∃xs ys,SqL K H l1 xs∧SqT K H l2 ys∧i<xs.length∧i<ys.length,
  fun i H x H'=>∃T a b,H T=none∧x= .ref T∧H'=upd H T (.tup [a,b])∧(∀xs,SqL K H l1 xs→xs[i]? =some a)∧(∀ys,SqT K H l2 ys→ys[i]? =some b),
  fun i H=>∃xs ys,SqL K H l1 xs∧SqT K H l2 ys∧xs.length≤i⟩
def xC(z ti to_ j1 j2 l1 l2:Addr)(i:Nat)(h:Heap):Prop:=IsZip h z ti to_ .none∧IsPair h ti (.ref j1) (.ref j2)∧(∃a b,IsPair h to_ a b)∧h.IsListIter j1 l1 i∧h.IsTupleIter j2 l2 i
theorem xD{h h':Heap}{j t:Addr}{i:Nat}(u:h.IsListIter j t i)(k:∀o,h.get? j=some o→h'.get? j=some o):h'.IsListIter j t i:=by
 obtain⟨o,e,r⟩:=u
 exact⟨o,k o e,r⟩
theorem vB{P:Program}{w:World}{K:W.Frag}{elts:List Expr}{kk:Nat}{tpos:Pos}(z ti to_ j1 j2 l1 l2:Addr)(D:ZipApart z ti to_ j1 j2 l1 l2):
 Turn P w K (.Tuple elts kk tpos) (DL K l1 l2) [z,ti,to_,j1,j2] z (xC z ti to_ j1 j2 l1 l2) where
 mem:=by simp
 obj:=fun i h st b hb=>by
  obtain⟨hz,hTI,⟨a,c,hTO⟩,⟨o1,e1,_,d1⟩,⟨o2,e2,_,d2⟩⟩:=st
  simp only[List.mem_cons,List.not_mem_nil,or_false] at hb
  rcases hb with rfl|rfl|rfl|rfl|rfl
  · exact⟨_,hz,fun v q=>by cases (show Data.fields _=Data.cell v from q)⟩
  · exact⟨_,hTI,fun v q=>by cases (show Data.seq _ _=Data.cell v from q)⟩
  · exact⟨_,hTO,fun v q=>by cases (show Data.seq _ _=Data.cell v from q)⟩
  · exact⟨_,e1,fun v q=>by rw[d1] at q;cases q⟩
  · exact⟨_,e2,fun v q=>by rw[d2] at q;cases q⟩
 keep:=fun i h h' st k=>by
  obtain⟨hz,hTI,⟨a,c,hTO⟩,h1,h2⟩:=st
  exact⟨k z (by simp) _ hz,k ti (by simp) _ hTI,⟨a,c,k to_ (by simp) _ hTO⟩,xD h1 fun o e=>k j1 (by simp) o e,lH h2 fun o e=>k j2 (by simp) o e⟩
 item:=by
  intro X hP hw hK hc i pins s σ H E I hf st hg
  subst hP hw hK
  obtain⟨xs,ys,q1,q2,g1,g2⟩:=hg
  obtain⟨its1,r1,p1,z1⟩:=I.list q1
  obtain⟨its2,r2,p2,z2⟩:=I.tuple q2
  obtain⟨u1,e1,ru1⟩:=r1.get (List.getElem?_eq_getElem g1)
  obtain⟨u2,e2,ru2⟩:=r2.get (List.getElem?_eq_getElem g2)
  obtain⟨hz,hTI,⟨a,c,hTO⟩,h1,h2⟩:=st
  refine xy (x:=u1) (y:=u2) D ⟨hz,hTI,hTO,h1,h2,p1.isList,p2⟩ (by simpa using e1) (by simpa using e2) fun h1' a1 a2 a3 a4 a5 hk=>⟨_,rfl, ?_⟩
  refine wpAny_letOwnedTupleGo_zip a1 fun h2' hz' hs'=> ?_
  have lt:∀{c o},s.heap.get? c=some o→s.heap.objs.size≠c:=fun e=>Nat.ne_of_gt (Heap.lt_size e)
  have Tz:s.heap.objs.size≠z:=lt hz
  have kz:∀b o,b≠z→h1'.get? b=some o→h2'.get? b=some o:=fun b o hb e=>hs'.extBut _ _ hb e
  have I':Inv X pins σ (upd H s.heap.objs.size (.tup [xs[i],ys[i]])) {s with heap:=h2'}:=by
   refine I.turnedNew (t':=s.toks) (ch:=[z,to_,j1,j2]) (fun b o hb e=> ?_) (fun b hb=>hf b (by
    simp only[List.mem_cons,List.not_mem_nil,or_false] at hb ⊢
    rcases hb with rfl|rfl|rfl|rfl<;>simp)) (Nat.le_refl _) ?_
   · simp only[List.mem_cons,List.not_mem_nil,or_false,not_or] at hb
     exact kz b o hb.1 (hk b o hb.1 hb.2.1 hb.2.2.1 hb.2.2.2 e)
   · exact⟨(by show 2≤sizeLine;decide),[u1,u2], .cons ru1 (.cons ru2 .nil),_,kz _ _ Tz a5,rfl,_,rfl⟩
  refine⟨.ref s.heap.objs.size,_,I',rfl,⟨s.heap.objs.size,xs[i],ys[i],I.hok.fresh (Nat.le_refl _),rfl,rfl,fun xs' q'=> ?_,fun ys' q'=> ?_⟩,⟨hz', ?_,⟨_,_,kz _ _ D.TOz a2⟩, ?_, ?_⟩,fun b hb=> ?_⟩
  · rw[I.list_inj q' q1];exact List.getElem?_eq_getElem g1
  · rw[I.tuple_inj q' q2];exact List.getElem?_eq_getElem g2
  · exact kz _ _ D.TIz (hk _ _ D.TIz D.TITO D.TIi1 D.TIi2 hTI)
  · exact xD a3 fun o e=>kz _ _ D.i1z e
  · exact lH a4 fun o e=>kz _ _ D.i2z e
  · have n:=(hf b hb).1
    simp only[List.mem_cons,List.not_mem_nil,or_false] at hb
    have ob:∃o,s.heap.get? b=some o:=by
     obtain⟨o1,x1,_⟩:=h1
     obtain⟨o2,x2,_⟩:=h2
     rcases hb with rfl|rfl|rfl|rfl|rfl
     · exact⟨_,hz⟩
     · exact⟨_,hTI⟩
     · exact⟨_,hTO⟩
     · exact⟨_,x1⟩
     · exact⟨_,x2⟩
    obtain⟨o,eo⟩:=ob
    rw[aJ (Ne.symm (lt eo))]
    exact n
 done:=by
  intro X hP hw hK hc i pins s σ H E I hf st hg
  subst hP hw hK
  obtain⟨xs,ys,q1,q2,g⟩:=hg
  obtain⟨its1,r1,p1,z1⟩:=I.list q1
  obtain⟨its2,r2,p2,z2⟩:=I.tuple q2
  obtain⟨hz,hTI,⟨a,c,hTO⟩,h1,h2⟩:=st
  have l1':=r1.length
  refine xB (I.ok.hd hc) D ⟨hz,hTI,hTO,h1,h2,p1.isList,p2⟩ (Array.getElem?_eq_none (by rw[List.size_toArray];omega)) fun h' hk=>⟨rfl, ?_⟩
  refine I.turnedL (t':=s.toks) (ch:=[z,to_,j1,j2]) (fun b o hb e=> ?_) (fun b hb=>hf b (by
   simp only[List.mem_cons,List.not_mem_nil,or_false] at hb ⊢
   rcases hb with rfl|rfl|rfl|rfl<;>simp))
  simp only[List.mem_cons,List.not_mem_nil,or_false,not_or] at hb
  exact hk b o hb.1 hb.2.1 hb.2.2.1 hb.2.2.2 e
 self:=fun _ _ _ _ _ st h=>wpAny_pyIter_zip st.1 h
def AR(K:W.Frag)(ta:TA):TI:=fun σ H R=>ta σ H fun vs H1=>∃l1 l2 xs ys,vs=[.ref l1, .ref l2]∧SqL K H1 l1 xs∧SqT K H1 l2 ys∧R (DL K l1 l2) H1
theorem zP{X:Cx}{a b:Expr}{ta:TA}{p pos tpos:Pos}{elts:List Expr}{kk:Nat}(hg:Gl X "zip")(hm:X.mg "zip"=none)(ha:PA X [a,b] ta)(hs:starEach [a,b] X.env=[(false,eval a X.env),(false,eval b X.env)]:=by rfl)(hs2:starEach [b] X.env=[(false,eval b X.env)]:=by rfl):
 PI X (.Tuple elts kk tpos) (.Call (.Name "zip" p) [a,b] [] pos) (AR X.K ta):=by
 intro pins s σ H R I h
 refine Call_ (kn I hg hm (show bootBuiltins "zip"=some (.type "zip") from by decide+kernel) (PyProof.Rows.callWith_type1 (thn (ha pos pins s σ H _ I h) fun us s1 ⟨vs,H1,I1,r1,q1⟩=> ?_) (by rw[hs,hs2]) (by rw[hs2];rfl)))
 obtain⟨l1,l2,xs,ys,e,q1,q2,q⟩:=q1
 subst e
 obtain⟨u1,u2,rfl,ru1,ru2⟩:=r1.two
 cases ru1
 cases ru2
 obtain⟨its1,v1,p1,z1⟩:=I1.list q1
 obtain⟨its2,v2,p2,z2⟩:=I1.tuple q2
 have b1:l1<s1.heap.objs.size:=by obtain⟨o,n,e,_⟩:=p1;exact Heap.lt_size e
 have b2:l2<s1.heap.objs.size:=by obtain⟨o,e,_⟩:=p2;exact Heap.lt_size e
 refine zM p1.isList p2 fun h' Z _ hk=> ?_
 have D:=lF b1 b2
 refine wpAny_pyIter_zip Z.z ?_
 refine⟨_,_,xC _ _ _ _ _ _ _,_,H1,rfl,I1.kept (t':=s1.toks) hk,vB _ _ _ _ _ _ _ D,⟨Z.z,Z.ti,⟨_,_,Z.to_⟩,Z.j1,Z.j2⟩,fun b hb=> ?_,q⟩
 have hb':s1.heap.objs.size≤b:=by
  simp only[List.mem_cons,List.not_mem_nil,or_false] at hb
  rcases hb with rfl|rfl|rfl|rfl|rfl
  · exact Nat.le_add_right _ _
  · exact Nat.le_add_right _ _
  · exact Nat.le_add_right _ _
  · exact Nat.le_refl _
  · exact Nat.le_add_right _ _
 exact I1.fpOk hb' (I1.hok.fresh hb')
end L2
namespace PD
open PySem L2
section
variable{K:W.Frag}{ns:List Str}
end
end PD
namespace PD
open PySem L2
section
variable{K:W.Frag}{ns:List Str}
end
end PD
namespace PD
open PySem L2
def nvS:SF:=fun _=>none
section
variable{K:W.Frag}{ns:List Str}
theorem kQ{fr:Fr}{lf fl fl':List Bool}:PuS K ns fr lf fl xz nvS fl':=fun _ _ _ _ _ _ _ _ k=>k.elim
end
end PD
namespace PD
open PySem L2
open Builtin Builtin.Str
def mtD(g:D→List D→Option D)(fa:VF)(fr:AF):VF:=fun env=>(fa env).bind fun a=>(fr env).bind fun r=>g a r
def stS:List D→Option (List Str)
 |[]=>some []
 | .str b::r=>(stS r).map (b:: ·)
 |_=>none
def kR:D→List D→Option D
 | .str a,[.str b]=>some (.bl (Txt.startswith a b))
 |_,_=>none
def d8:D→List D→Option D
 | .str a,[.lst xs]=>(stS xs).bind fun ys=>if(ys.map (·.length)).sum+ys.length*a.length≤16777216 then some (.str (Txt.join a ys)) else none
 |_,_=>none
def jH:D→List D→Option D
 | .str a,[.str b]=>match b.cps.toList with
   |[c]=>if a.length≤1000000 then some (.lst ((Txt.split a ⟨#[c]⟩).map .str)) else none
   |_=>none
 |_,_=>none
def j8:List D→Option D
 |[.int i]=>if i.natAbs.log2<1920 then some (.str (toString i)) else none
 |[.str z]=>some (.str z)
 |_=>none
def jI:List D→Option D
 |[.int i]=>some (.int i)
 |[.bl b]=>some (.int (if b then 1 else 0))
 |[.str z]=>if z.length≤640 then(PySem.intText? z).map .int else none
 |_=>none
def lN:D→D→Option D
 | .str i, .str j=>some (.bl (!(occurrences j i 0 j.length 1).isEmpty))
 |d,e=>inD d e
section
variable{K:W.Frag}{ns:List Str}
theorem AS{n:Nat}{r:V→List V→Hp→VK→Prop}{g:D→List D→Option D}{ta:TE}{fa:VF}{t:TA}{f:AF}(hs:∀d as e,g d as=some e→∃z,d= .str z)
 (hr:∀(L:Addr→Prop) (H:Hp) (x:V) (xs:List V) (a:D) (as:List D) (d:D) (Q:VK),Rd K ns L H x a→Rds K ns L H xs as→g a as=some d→(∀v H',Same H H'→Rd K ns (Nw L H) H' v d→Q v H')→r x xs H Q)
 (ha:PuE K ns ta fa)(h:PuA K ns n t f):PuE K ns (tBM K "str" r ta t) (mtD g fa f):=by
 intro L env σ H Q d he hf k
 obtain⟨a,ea,hf⟩:=bnd hf
 obtain⟨as,es,hf⟩:=bnd hf
 obtain⟨z,rfl⟩:=hs _ _ _ hf
 refine ha L env σ H _ _ he ea fun x H1 S1 rx=> ?_
 cases rx
 refine⟨rfl, ?_⟩
 refine h (Nw L H) env σ H1 _ as (he.nw S1) es fun ys H2 _ S2 ry=> ?_
 exact hr _ H2 _ ys _ as d Q (.str z) ry hf fun v H3 S3 rv=>k v H3 (S1.trans (S2.trans S3)) (rv.mono (fun q hq=>nw2 S1 (nw2 S2 hq)) .refl)
theorem B7{n:Nat}{r:V→List V→Hp→VK→Prop}{g:D→List D→Option D}{ta:TE}{fa:VF}{t:TA}{f:AF}(hs:∀d as e,g d as=some e→∃z,d= .str z)
 (hr:∀(L:Addr→Prop) (H:Hp) (x:V) (xs:List V) (a:D) (as:List D) (d:D) (Q:VK),Rd K ns L H x a→Rds K ns L H xs as→g a as=some d→(∀p vs ds H',d= .lst ds→Same H H'→H p=none→H' p=some (.lst vs)→Rds K ns (fun a=>Nw L H a∧a≠p) H' vs ds→Q (.ref p) H')→r x xs H Q)
 (ha:PuE K ns ta fa)(h:PuA K ns n t f):PuF K ns (tBM K "str" r ta t) (mtD g fa f):=by
 intro L env σ H Q d he hf k
 obtain⟨a,ea,hf⟩:=bnd hf
 obtain⟨as,es,hf⟩:=bnd hf
 obtain⟨z,rfl⟩:=hs _ _ _ hf
 refine ha L env σ H _ _ he ea fun x H1 S1 rx=> ?_
 cases rx
 refine⟨rfl, ?_⟩
 refine h (Nw L H) env σ H1 _ as (he.nw S1) es fun ys H2 _ S2 ry=> ?_
 exact hr _ H2 _ ys _ as d Q (.str z) ry hf fun p vs ds H3 e S3 hp h3 rv=>k p vs ds H3 e (S1.trans (S2.trans S3)) (gG S1 (gG S2 hp)) h3 (rv.mono (fun q hq=>⟨nw2 S1 (nw2 S2 hq.1),hq.2⟩) .refl)
theorem mS{t:TE}{g:D→List D→Option D}{a:VF}{b:AF}(h:PuE K ns t (mtD g a b)):PuE K ns t (mtD (aa g) a b):=by rw[am];exact h
theorem mSF{t:TE}{g:D→List D→Option D}{a:VF}{b:AF}(h:PuF K ns t (mtD g a b)):PuF K ns t (mtD (aa g) a b):=by rw[am];exact h
theorem B8{L:Addr→Prop}{H:Hp}{vs:List V}{ds:List D}{ys:List Str}(r:Rds K ns L H vs ds)(e:stS ds=some ys):vs=ys.map V.str:=by
 induction vs generalizing ds ys with
 |nil=>rw[r.nilL] at e;cases e;rfl
 |cons v vs ih=>
  obtain⟨d,es,rfl,h,t⟩:=r.consL
  cases h<;>first|(cases e;done)|skip
  obtain⟨z,ez,rfl⟩:=Option.map_eq_some_iff.mp e
  rw[ih t ez]
  rfl
theorem ux{L:Addr→Prop}{H:Hp}:∀ys:List Str,Rds K ns L H (ys.map V.str) (ys.map .str)
 |[]=> .nil
 |y::ys=> .cons (.str y) (ux ys)
theorem vC{n:Nat}{ta:TE}{fa:VF}{t:TA}{f:AF}(ha:PuE K ns ta fa)(h:PuA K ns n t f):PuE K ns (tBM K "str" uc ta t) (mtD kR fa f):=
 AS (fun d as e q=>by unfold kR at q;split at q;exact⟨_,rfl⟩;cases q) (fun L H x xs a as d Q rx ry q k=>by
  unfold kR at q
  split at q
  · cases q
    obtain⟨y,rfl,r⟩:=d7 ry
    cases rx
    cases r
    exact⟨_,_,rfl,rfl,k _ _ (Same.refl _) (.bl _)⟩
  · cases q) ha h
theorem jj{n:Nat}{ta:TE}{fa:VF}{t:TA}{f:AF}(ha:PuE K ns ta fa)(h:PuA K ns n t f):PuE K ns (tBM K "str" (wq K) ta t) (mtD d8 fa f):=
 AS (fun d as e q=>by unfold d8 at q;split at q;exact⟨_,rfl⟩;cases q) (fun L H x xs a as d Q rx ry q k=>by
  unfold d8 at q
  split at q
  · obtain⟨ys,ey,q⟩:=bnd q
    split at q
    · rename_i hz
      cases q
      obtain⟨y,rfl,r⟩:=d7 ry
      cases rx
      cases r with
      |lst l e r=>exact⟨_,_,ys,rfl,rfl,by rw[←B8 r ey];exact SqL.of e,hz,k _ _ (Same.refl _) (.str _)⟩
    · cases q
  · cases q) ha h
theorem nI{n:Nat}{ta:TE}{fa:VF}{t:TA}{f:AF}(ha:PuE K ns ta fa)(h:PuA K ns n t f):PuF K ns (tBM K "str" xA ta t) (mtD jH fa f):=
 B7 (fun d as e q=>by unfold jH at q;split at q;exact⟨_,rfl⟩;cases q) (fun L H x xs a as d Q rx ry q k=>by
  unfold jH at q
  split at q
  · rename_i z b
    split at q
    · rename_i c hc
      split at q
      · rename_i hz
        cases q
        obtain⟨y,rfl,r⟩:=d7 ry
        cases rx
        cases r
        have eb:b=⟨#[c]⟩:=by
         obtain⟨cp⟩:=b
         have:cp= #[c]:=by
          have:=congrArg List.toArray hc
          simpa using this
         rw[this]
        subst eb
        exact⟨_,c,rfl,rfl,hz,fun l hl=>k l _ _ _ rfl (aV hl _) hl aI (ux _)⟩
      · cases q
    · cases q
  · cases q) ha h
theorem jJ:CaP K ns AQ j8:=by
 intro L H xs as d Q rx hf k
 unfold j8 at hf
 split at hf
 · split at hf
   · rename_i hz
     cases hf
     obtain⟨x,rfl,r⟩:=d7 rx
     cases r
     exact .inl ⟨_,rfl,hz,k _ _ (Same.refl _) (.str _)⟩
   · cases hf
 · cases hf
   obtain⟨x,rfl,r⟩:=d7 rx
   cases r
   exact .inr ⟨_,rfl,k _ _ (Same.refl _) (.str _)⟩
 · cases hf
theorem ql:CaP K ns Dy jI:=by
 intro L H xs as d Q rx hf k
 unfold jI at hf
 split at hf
 · cases hf
   obtain⟨x,rfl,r⟩:=d7 rx
   cases r
   exact .inl (.inl ⟨_,rfl,k _ _ (Same.refl _) (.int _)⟩)
 · cases hf
   obtain⟨x,rfl,r⟩:=d7 rx
   cases r
   exact .inl (.inr ⟨_,rfl,k _ _ (Same.refl _) (.int _)⟩)
 · split at hf
   · rename_i hz
     obtain⟨i,hi,rfl⟩:=Option.map_eq_some_iff.mp hf
     obtain⟨x,rfl,r⟩:=d7 rx
     cases r
     exact .inr ⟨_,i,rfl,hi,hz,k _ _ (Same.refl _) (.int _)⟩
   · cases hf
 · cases hf
theorem nJ:R2P K ns (Dw K) lN:=by
 intro L H x y a b d Q rx ry hf k
 unfold lN at hf
 split at hf
 · cases hf
   cases rx
   cases ry
   exact .inl ⟨_,_,rfl,rfl,k _ _ (Same.refl _) (.bl _)⟩
 · exact DH L H x y a b d Q rx ry hf k
end
end PD
namespace PD
open PySem L2
def kd:D→Nat
 | .non=>0| .bl _=>1| .int _=>2| .str _=>3| .tup _=>4| .ob _ _=>5| .lst _=>6|_=>9
def kO:Option HO→Nat
 |some (.tup _)=>4
 |some (.ins _ _ _)=>5
 |some (.lst _)=>6
 |_=>9
def kH(H:Hp):V→Nat
 | .non=>0| .bl _=>1| .int _=>2| .str _=>3
 | .ref a=>kO (H a)
 |_=>9
def ap1(a b:D):Bool:=kd a != 9&&(kd b != 9&&kd a != kd b)
def apL:List D→List D→Bool
 |[],[]=>false
 |a::as,b::bs=>ap1 a b||apL as bs
 |_,_=>true
def clr:Nat→List (List D)→D→Bool
 |0,_,d=>d.flat
 |n+1,os,d=>match d with
  | .lst xs=>os.all (apL xs)&&xs.all (clr n os)
  | .tup xs=>xs.all (clr n os)
  | .ob _ fs=>fs.all fun p=>clr n os p.2
  |d=>d.flat
def sZ:List Bool→Env→List (List D)
 |b::fl,o::env=>(match b,o with|true,some (.lst ys)=>[ys]|_,_=>[])++sZ fl env
 |_,_=>[]
def DM:HO→Bool
 | .lst _=>true
 | .ins _ _ _=>true
 |_=>false
def rG(fl:List Bool)(i:Nat)(f:VF):SF:=fun env=>(f env).bind fun d=>if clr 4 (sZ fl env) d=true then some (.nx (env.set i (some d))) else none
def B9(fl:List Bool)(i:Nat)(f:VF):SF:=fun env=>(f (eT fl env)).bind fun d2=>if d2.flat=true then(eX i env).bind fun xs=>some (.rt (.tup [.lst xs,d2])) else none
def xE:List D→Option (List D)
 |[.lst xs, .tup ys]=>if xs.length≤ys.length then some (kv xs ys) else none
 |as=>zB as
section
variable{K:W.Frag}{ns:List Str}{fr:Fr}{lf fl fl':List Bool}{L L' L0:Addr→Prop}{H H0:Hp}{O:List (Option Addr)}{env:Env}{σ:St}
theorem AT{v:V}{d:D}(r:Rd K ns L H v d):kd d=9∨kd d=kH H v:=by
 cases r with
 |tup e _=>exact .inr (by show _=kO (H _);rw[e];rfl)
 |lst _ e _=>exact .inr (by show _=kO (H _);rw[e];rfl)
 |ob _ e _ _=>exact .inr (by show _=kO (H _);rw[e];rfl)
 |_=>first|exact .inr rfl|exact .inl rfl
theorem Ca{v:V}{a b:D}(r:Rd K ns L H v a)(s:Rd K ns L' H v b):ap1 a b=false:=by
 unfold ap1
 rcases AT r with h|h
 · rw[h];rfl
 · rcases AT s with q|q
   · rw[q];cases kd a != 9<;>rfl
   · rw[h,q];cases kH H v != 9<;>simp
theorem Cb{vs:List V}{xs ys:List D}(r:Rds K ns L H vs xs)(s:Rds K ns L' H vs ys):apL xs ys=false:=by
 induction vs generalizing xs ys with
 |nil=>rw[r.nilL,s.nilL];rfl
 |cons v vs ih=>
  obtain⟨x,xs,rfl,h,t⟩:=r.consL
  obtain⟨y,ys,rfl,h',t'⟩:=s.consL
  show (ap1 x y||apL xs ys)=false
  rw[Ca h h',ih t t']
  rfl
theorem xF{A B:Addr→Prop}{p:D→Bool}(h:∀{v:V} {d:D},Rd K ns A H v d→p d=true→Rd K ns B H v d){vs:List V}{ds:List D}(r:Rds K ns A H vs ds)(q:ds.all p=true):Rds K ns B H vs ds:=by
 induction vs generalizing ds with
 |nil=>rw[r.nilL];exact .nil
 |cons v vs ih=>
  obtain⟨d,es,rfl,a,t⟩:=r.consL
  rw[List.all_cons,Bool.and_eq_true] at q
  exact .cons (h a q.1) (ih t q.2)
theorem Cc{A B:Addr→Prop}{p:D→Bool}(h:∀{v:V} {d:D},Rd K ns A H v d→p d=true→Rd K ns B H v d){gs:List (Str×V)}{fs:List (Fl×D)}(r:Rfs K ns A H gs fs)(q:(fs.all fun z=>p z.2)=true):Rfs K ns B H gs fs:=by
 induction fs with
 |nil=>exact .nil
 |cons z fs ih=>
  rw[List.all_cons,Bool.and_eq_true] at q
  cases r with
  |cons e a t=>exact .cons e (h a q.1) (ih t q.2)
theorem qm{A B:Addr→Prop}{os:List (List D)}(hA:∀a,A a→B a∨(∃(vs:List V) (ys:List D) (L':Addr→Prop),H a=some (.lst vs)∧ys∈os∧Rds K ns L' H vs ys)∨∃o,H a=some o∧DM o=false):∀(n:Nat) {v:V} {d:D},Rd K ns A H v d→clr n os d=true→Rd K ns B H v d
 |0,v,d,r,h=>r.flat h
 |n+1,v,d,r,h=>by
  cases r with
  |tup e r=>exact .tup e (xF (qm hA n) r h)
  |lst l e r=>
   rename_i a vs xs
   have h':(os.all (apL xs)&&xs.all (clr n os))=true:=h
   rw[Bool.and_eq_true] at h'
   refine .lst ?_ e (xF (qm hA n) r h'.2)
   rcases hA _ l with q|⟨us,ys,L',e',m,s⟩|⟨o,e',q⟩
   · exact q
   · rw[e] at e'
     cases e'
     have:=List.all_eq_true.mp h'.1 ys m
     rw[Cb r s] at this
     cases this
   · rw[e] at e'
     cases e'
     cases q
  |ob l e k r=>
   refine .ob ?_ e k (Cc (qm hA n) r h)
   rcases hA _ l with q|⟨us,ys,L',e',m,s⟩|⟨o,e',q⟩
   · exact q
   · rw[e] at e'
     cases e'
   · rw[e] at e'
     cases e'
     cases q
  |non=>exact .non
  |bl b=>exact .bl b
  |int i=>exact .int i
  |str x=>exact .str x
  |kt e r=>exact Rd.flat (.kt e r) h
  |fz e r=>exact Rd.flat (.fz e r) h
  |dk l e r=>exact Rd.flat (.dk l e r) h
  |dt l e r=>exact Rd.flat (.dt l e r) h
theorem rH:∀{fl:List Bool} {env:Env} {i:Nat} {ys:List D},fl[i]? =some true→env[i]? =some (some (.lst ys))→ys∈sZ fl env
 |[],_,_,_,h,_=>by simp at h
 |_::_,[],_,_,_,e=>by simp at e
 |b::fl,o::env,0,ys,h,e=>by
  cases h
  cases e
  exact List.mem_append_left _ (List.mem_singleton.mpr rfl)
 |b::fl,o::env,i+1,ys,h,e=>List.mem_append_right _ (rH (i:=i) h e)
theorem Iv.clear(I:Iv K ns fl L0 H0 O env σ H)(a:Addr)(h:Nw L0 H0 a):Lm L0 H0 O a∨(∃(vs:List V) (ys:List D) (L':Addr→Prop),H a=some (.lst vs)∧ys∈sZ fl env∧Rds K ns L' H vs ys)∨∃o,H a=some o∧DM o=false:=by
 by_cases m:some a∈O
 · obtain⟨i,hi,e⟩:=List.getElem_of_mem m
   have ho:O[i]? =some (some a):=by rw[List.getElem?_eq_getElem hi,e]
   obtain⟨_,_,o,d,ed,hp,r⟩:=I.ow i a ho
   rcases r.case with⟨vs,ds,rfl,rfl,r⟩|⟨kvs,ds,rfl,rfl,r⟩|⟨kvs,ds,rfl,rfl,r⟩
   · refine .inr (.inl ⟨vs,ds,_,hp,rH (i:=i) ?_ ed,r⟩)
     rw[←I.fl,List.getElem?_map,ho]
     rfl
   · exact .inr (.inr ⟨_,hp,rfl⟩)
   · exact .inr (.inr ⟨_,hp,rfl⟩)
 · exact .inl ⟨h,m⟩
theorem tf(i:Nat){t:TE}{f:VF}(h:PuE K ns t f):PuS K ns fr lf fl (mL t (iD i)) (rG fl i f) (fl.set i false):=by
 intro L0 H0 O env σ H E I k
 unfold rG at k
 cases e:f env with
 |none=>rw[e] at k;exact k.elim
 |some d=>
  rw[e] at k
  refine h _ env σ H _ d I.weak e fun v H' S r=> ?_
  have k':Fin K ns fr lf (fl.set i false) L0 H0 O H E (if clr 4 (sZ fl env) d=true then some (.nx (env.set i (some d))) else none):=k
  by_cases hd:clr 4 (sZ fl env) d=true
  · rw[if_pos hd] at k'
    have I':=I.same S
    exact k' _ _ H' ((Step.same S).trans (.give i)) (I'.store (qm I'.clear 4 (r.mono (fun _ q=>nw2 I.sm q) .refl) hd))
  · rw[if_neg hd] at k'
    exact k'.elim
end
section
variable(K:W.Frag)(ns:List Str)
def PuX(t:TE)(f:VF):Prop:=∀(L:Addr→Prop) (env:Env) (σ:St) (H:Hp) (Q:VK) (d:D),EnvR K ns L env σ H→f env=some d→(∀v H',Same H H'→Rd K ns (fun a=>H a=none) H' v d→Q v H')→t σ H Q
end
section
variable{K:W.Frag}{ns:List Str}{fr:Fr}{lf fl fl':List Bool}
theorem Cd(i:Nat){t:TE}{f:VF}(h:PuE K ns t f)(hi:fl[i]? =some true):PuS K ns .pr lf fl (sr (vf (bO (iX i) (bO t iC)))) (B9 fl i f) fl':=by
 intro L0 H0 O env σ H E I k
 obtain⟨p,ho⟩:=I.owned hi
 obtain⟨h0,hs,o,d,ed,hp,r⟩:=I.ow i p ho
 unfold B9 at k
 cases e:f (eT fl env) with
 |none=>rw[e] at k;exact k.elim
 |some d2=>
  rw[e] at k
  have k':Fin K ns .pr lf fl' L0 H0 O H E (if d2.flat=true then(eX i env).bind fun xs=>some (.rt (.tup [.lst xs,d2])) else none):=k
  by_cases hd:d2.flat=true
  · rw[if_pos hd] at k'
    unfold eX at k'
    rw[ed] at k'
    rcases r.case with⟨vs,ds,rfl,rfl,r⟩|⟨kvs,ds,rfl,rfl,r⟩|⟨kvs,ds,rfl,rfl,r⟩
    rotate_left
    · exact k'.elim
    · exact k'.elim
    refine⟨_,hs,h _ (eT fl env) σ H _ d2 I.strict e fun v2 H1 S1 r2=>⟨by show 2≤sizeLine;decide,fun T hT=> ?_⟩⟩
    have N:=aV hT (.tup [.ref p,v2])
    have S:=S1.trans N
    exact k' (.ref T) _ (I.sm.trans S) ⟨T,p,vs,ds,v2,d2,rfl,rfl,aI,h0,S _ _ hp,(r.same S).mono (fun a q=>⟨q.1,fun z=>q.2 (z▸List.mem_of_getElem? ho)⟩) .refl,(r2.same N).flat hd⟩
  · rw[if_neg hd] at k'
    exact k'.elim
theorem zQ{t:TS}{b:SF}{n m:Nat}{N:List Str}{vs:List V}{H:Hp}{Q:VK}{E:XK}(h:PuS K ns .pr [] (List.replicate n false) t b fl')(hN:N.length=n)(hm:m≤n)(s:spP K ns .pr m (fQ n b) vs H Q E):t {nx:=fun _ H'=>Q .non H',rt:=Q} (start N vs) H:=by
 obtain⟨L,ds,d,hl,r,hf,k⟩:=s
 refine h L H _ _ _ _ _ (kP r hN (by omega)) ?_
 unfold fQ at hf
 cases e:b (io n ds) with
 |none=>rw[e] at hf;cases hf
 |some o=>
  rw[e] at hf
  cases o with
  |rt d2=>cases hf;exact k
  |nx e2=>cases hf
  |bk e2=>cases hf
  |ct e2=>cases hf
theorem Ce{n:Nat}{F:List D→Option D}{t:TA}{f:AF}{E:XK}(h:PuA K ns n t f):PuE K ns (jy (spP K ns .pr n F) [] E t) (ap F f):=by
 intro L env σ H Q d he hf k
 obtain⟨a,ea,hf⟩:=bnd hf
 refine h L env σ H _ a he ea fun xs H1 hl S1 rx=>⟨Nw L H,a,d,hl,by rw[List.append_nil];exact rx,hf,fun v H2 S2 r=> ?_⟩
 obtain⟨T,p,us,ds,v2,d2,rfl,rfl,hT,hp,hl2,rr,r2⟩:=r
 exact k _ H2 (S1.trans S2) (.tup hT (.cons (.lst (.inr (gG S1 hp)) hl2 (rr.mono (fun _ q=>nw2 S1 q.1) .refl)) (.cons (r2.mono (fun _ q=>q.elim) .refl) .nil)))
theorem zR{n:Nat}{t:TA}{f:AF}(h:PuA K ns n t f):PuI K ns (fun σ H R=>(BI K t σ H R∨wV K t σ H R)∨AR K t σ H R) (iaD xE f):=by
 intro L env σ H R ds he hf k
 obtain⟨as,ea,hf⟩:=bnd hf
 unfold xE at hf
 split at hf
 · rename_i xs ys
   split at hf
   · rename_i hlen
     refine .inr (h L env σ H _ _ he ea fun vs H1 _ S1 r=> ?_)
     obtain⟨x,y,rfl,q,q'⟩:=nv r
     clear r
     cases hf
     cases q with
     | @lst p us _ l e r=>
       cases q' with
       | @tup p' us' _ e' r'=>
         refine⟨_,_,_,_,rfl,SqL.of e,SqT.of e',k _ _ S1 ?_⟩
         intro L2 i H hL hk
         have l2:=hL _ _ e l
         have e2:=hk _ _ e fun _=>l2
         have e2':=hk _ _ e' fun z=>by cases z
         have kk:KeepL _ H1 H:=fun b o eb hb=>hk b o eb fun z=>hL _ _ eb (hb z)
         have r2:=r.mono2 hL kk
         have r2':=r'.mono2 hL kk
         refine⟨fun d hd=> ?_,fun hi=>⟨us,us',SqL.of e2,SqT.of e2',by unfold kv at hi;rw[List.length_zipWith] at hi;rw[r.len];omega⟩⟩
         unfold kv at hd
         rw[List.getElem?_zipWith] at hd
         cases hx:xs[i]? with
         |none=>rw[hx] at hd;cases hd
         |some c=>
          cases hy:ys[i]? with
          |none=>rw[hx,hy] at hd;cases hd
          |some c'=>
           rw[hx,hy] at hd
           cases hd
           obtain⟨v,ev,rv⟩:=r2.get hx
           obtain⟨v',ev',rv'⟩:=r2'.get hy
           refine⟨⟨us,us',SqL.of e2,SqT.of e2',(List.getElem?_eq_some_iff.mp ev).1,(List.getElem?_eq_some_iff.mp ev').1⟩,fun x H' y=> ?_⟩
           obtain⟨T,a,b,hT,rfl,rfl,y,y'⟩:=y
           have h1:=y _ (SqL.of e2)
           have h2:=y' _ (SqT.of e2')
           rw[ev] at h1
           rw[ev'] at h2
           cases h1
           cases h2
           have N:=aV hT (.tup [v,v'])
           exact⟨N, .tup aI (.cons (rv.nw.same N) (.cons (rv'.nw.same N) .nil))⟩
   · cases hf
 · exact .inl (zD h L env σ H R ds he (by show (f env).bind zB=_;rw[ea];exact hf) k)
end
end PD
namespace PD
open PySem L2
def flatV(f:VF):VF:=fun env=>(f env).bind fun d=>if d.flat=true then some d else none
def flsV(f:VF):VF:=fun env=>(f env).bind fun| .lst ds=>if flats ds=true then some (.lst ds) else none|_=>none
def vE(i:Nat)(f:VF):SF:=fun env=>(f env).bind fun d=>(eX i env).bind fun xs=>if xs.length<1000000 then some (.nx (env.set i (some (.lst (xs++[d]))))) else none
abbrev Zn(H0:Hp):Addr→Prop:=fun a=>H0 a=none
section
variable{K:W.Frag}{ns:List Str}{fr:Fr}{lf fl:List Bool}
theorem PuX.pe{t:TE}{f:VF}(h:PuX K ns t f):PuE K ns t f:=fun L env σ H Q d he hf k=>h L env σ H Q d he hf fun v H' S r=>k v H' S (r.mono (fun _ q=> .inr q) .refl)
theorem Cf(i:Nat){t:TE}{f:VF}(h:PuX K ns t f)(hi:fl[i]? =some true):PuS K ns fr lf fl (re (tBM K "list" kI (iX i) (bO t iC))) (vE i f) fl:=by
 intro L0 H0 O env σ H E I k
 rcases qi I hi with hn|⟨p,vs,ds,ho,hs,hd,hp,r⟩
 · exact Fin.no k (by unfold vE;rw[hn];cases f env with|none=>rfl|some d=>rfl)
 unfold vE at k
 cases e:f env with
 |none=>rw[e] at k;exact k.elim
 |some d=>
  rw[e] at k
  have k':Fin K ns fr lf fl L0 H0 O H E ((eX i env).bind fun xs=>if xs.length<1000000 then some (.nx (env.set i (some (.lst (xs++[d]))))) else none):=k
  rw[hd] at k'
  have k2:Fin K ns fr lf fl L0 H0 O H E (if ds.length<1000000 then some (.nx (env.set i (some (.lst (ds++[d]))))) else none):=k'
  by_cases hl:ds.length<1000000
  · rw[if_pos hl] at k2
    refine⟨_,hs, .inl ⟨rfl,_,SqL.of hp⟩,h _ env σ H _ d I.weak e fun v H' S rv=> ?_⟩
    refine⟨p,vs,v,rfl,rfl,S _ _ hp,by rw[r.len];exact Nat.lt_trans hl (by decide), ?_⟩
    have I':=I.same S
    exact k2 _ _ _ ((Step.same S).trans (.alter (List.mem_of_getElem? ho))) (I'.alter ho ((r.same S).append (.cons (rv.mono (fun _ q=>I.new_m q) .refl) .nil)))
  · rw[if_neg hl] at k2
    exact k2.elim
end
end PD
namespace PD
open PySem L2
section
variable{K:W.Frag}{ns:List Str}{fr:Fr}{lf fl:List Bool}
end
end PD
namespace PD
open PySem L2
section
variable{K:W.Frag}{ns:List Str}
end
end PD
namespace L2
open PySem PySem.Spec PyProof.Rows
def tbP(T:Addr)(h:Heap):Prop:=∃oT ts,h.get? T=some oT∧oT.data= .fields ts∧3<ts.size
def tbH(T:Addr):HO:= .ext (tbP T)
theorem tj{P:Program}{w:World}{H:Hp}{h:Heap}{T:Addr}(p:tbP T h):ObjOk P w H h T (tbH T):=by
 obtain⟨o,ts,q,z⟩:=p
 exact⟨⟨o,ts,q,z⟩,⟨_,q⟩,fun h1 h2 ⟨o',ts',q',z'⟩ k=>⟨o',ts',k _ q',z'⟩⟩
def FlS(h:Heap)(T:Addr)(fl:Value):Prop:=∃oT ts,h.get? T=some oT∧oT.data= .fields ts∧ts[3]? =some fl
theorem FlS.tb{h:Heap}{T:Addr}{fl:Value}(x:FlS h T fl):tbP T h:=by
 obtain⟨o,ts,q,d,z⟩:=x
 exact⟨o,ts,q,d,(Array.getElem?_eq_some_iff.mp z).1⟩
section
variable{M:Model}{A:Around}{E:Value→Shared→Prop}{s:Shared}
theorem nK{base:Heap}{env:Env}{outer:List Env}{L e:Addr}{cl:Value}{d:Option Addr}{vs:Array Value}{sl:Array (Option Value)}{head:Value}{hadNext:Bool}{Q:Unit→Shared→Prop}
 (hfr:A.frames=some (env::outer))(hl:s.heap.FunFrames base (env::outer))(hf:env.frame=some L)(he:s.heap.get? e=some ⟨cl,d, .fields vs,sl⟩)(hsz:1<vs.size)
 (h:∀h' T,s.heap.get? T=none→(∀b o,b≠e→b∉frs (env::outer)→s.heap.get? b=some o→h'.get? b=some o)→(∀b o,b≠e→s.heap.get? b=some o→∃sl,h'.get? b=some {o with slots:=sl})→
  h'.get? e=some ⟨cl,d, .fields (vs.setIfInBounds 1 (.ref T)),sl⟩→FlS h' T (rawInt L)→Q () {s with heap:=h'}):
 wpAny M A (do let a ←frameOf env;let pl ←entryPlaceOf L hadNext;let b ←EntryCells.newEntry head a .none (rawInt L) .none pl;setField (.ref e) 1 b) Q E s:=by
 have hene:e∉(env::outer).filterMap (·.frame):=fun hm=>by
  obtain⟨_,o,ho,hnf⟩:=hl.mem hm
  rw[he] at ho;injection ho with ho;subst ho;exact hnf vs rfl
 refine wpAny_bind (wpAny_frameOf_fun hfr hl hf fun h₁ hs₁=> ?_)
 refine wpAny_bind (wpAny_entryPlaceOf fun pl hpl=> ?_)
 unfold EntryCells.newEntry newFields
 refine wpAny_bind (wpAny_newObj_type ?_ (hpl.sizeOk5 _ _ _ _ _))
 have he₁:h₁.get? e=some ⟨cl,d, .fields vs,sl⟩:=(hs₁.2.1 e hene).trans he
 have he₂:=Heap.get?_push_of_some (h:=h₁) {cls:= .type "traceback",dict:=none,data:= .fields ([head, .ref L, .none,rawInt L, .none]++(if pl.isEmpty then List.replicate 6 Value.none else pl)).toArray} he₁
 refine wpAny_setField he₂ rfl hsz ?_
 have hTe:h₁.objs.size≠e:=Nat.ne_of_gt (Heap.lt_size he₁)
 have hT₃:=(Heap.get?_update_other (h₁.push {cls:= .type "traceback",dict:=none,data:= .fields ([head, .ref L, .none,rawInt L, .none]++(if pl.isEmpty then List.replicate 6 Value.none else pl)).toArray})
  (Obj.mapFields (·.setIfInBounds 1 (Value.ref h₁.objs.size))) (Ne.symm hTe)).trans (Heap.get?_push_size h₁ rfl)
 have keep:∀b o,b≠e→h₁.get? b=some o→
  ((h₁.push {cls:= .type "traceback",dict:=none,data:= .fields ([head, .ref L, .none,rawInt L, .none]++(if pl.isEmpty then List.replicate 6 Value.none else pl)).toArray}).update e (Obj.mapFields (·.setIfInBounds 1 (Value.ref h₁.objs.size)))).get? b=some o:=
  fun b o hbe hb=>by
   rw[Heap.get?_update_other _ _ (Ne.symm hbe)]
   exact Heap.get?_push_of_some _ hb
 refine h _ h₁.objs.size ?_ (fun b o hbe hb eb=>keep b o hbe ((hs₁.2.1 b hb).trans eb)) (fun b o hbe eb=> ?_) ?_ ⟨_,_,hT₃,rfl,by first|(simp;done)|(rcases hpl with rfl|⟨_,_,_,_,_,_,_,rfl⟩<;>simp)⟩
 · rw[hs₁.1]
   exact Heap.get?_none_of_le (Nat.le_refl _)
 · obtain⟨sl',e'⟩:=hs₁.2.2 b o eb
   exact⟨sl',keep b _ hbe e'⟩
 · rw[Heap.get?_update_self _ he₂ rfl]
   rfl
end
def xG(H:Hp)(h:Heap)(a C:Addr)(d:Option Addr)(fl:Value):Prop:=∃T,H a=some (exT a C d T)∧H T=some (tbH T)∧FlS h T fl
def Cg(H:Hp)(h:Heap)(a C:Addr)(d:Option Addr)(L:Addr):Prop:=H a=some (exH a C d)∨xG H h a C d .none∨xG H h a C d (rawInt L)
def Lft(a:Addr)(H H':Hp):Prop:=∀b o,b≠a→H b=some o→H' b=some o
theorem Lft.refl{a:Addr}{H:Hp}:Lft a H H:=fun _ _ _ e=>e
theorem Lft.trans{a:Addr}{H H1 H2:Hp}(x:Lft a H H1)(y:Lft a H1 H2):Lft a H H2:=fun b o n e=>y b o n (x b o n e)
def CX1(P:Program)(w:World):CXT:=fun outer H s E e s'=>∃a C d H' H1,e= .ref a∧s'.os=s.os∧AllBare s'.gens∧Un (frs outer) [] H H' s.heap s'.heap∧HOk P w H' s'.heap∧s.heap.get? a=none∧d≠some a∧xG H' s'.heap a C d .none∧Lft a H1 H'∧E (.ref C) d H1
section
variable{X:Cx}{pins:List (Addr×Obj)}{σ:St}{H:Hp}{s:Shared}{a T C:Addr}{d:Option Addr}{E:Value→Shared→Prop}{fl:Value}
theorem Inv.exT(I:Inv X pins σ H s)(h:H a=some (exT a C d T)):exR a C d T s.heap:=(I.hok a _ h).1
theorem jk{fr:Option Addr}{Q:Unit→Shared→Prop}(I:Inv X pins σ H s)(h1:H a=some (L2.exT a C d T))(h2:H T=some (tbH T))
 (h:∀s',Inv X pins σ H s'→xG H s'.heap a C d (fr.elim .none fun f=>rawInt f)→Q () s'):wpAny (model X.prog X.w) X.A (setFlight (.ref a) fr) Q E s:=by
 obtain⟨vs,sl,e1,z,z1⟩:=I.exT h1
 obtain⟨oT,ts,e2,d2,z2⟩:=(show tbP T s.heap from(I.hok T _ h2).1)
 unfold setFlight
 refine wpAny_bind (wpAny_field e1 rfl z1 ?_)
 rw[if_pos (show (Value.ref T != Value.none)=true from by simp)]
 refine wpAny_setField e2 d2 z2 ?_
 have hT:=Heap.get?_update_self (Obj.mapFields (·.setIfInBounds 3 (fr.elim .none fun f=>rawInt f))) e2 (Obj.isFreed_of_fields (Obj.data_mapFields d2 _))
 have fls:FlS (s.heap.update T (Obj.mapFields (·.setIfInBounds 3 (fr.elim .none fun f=>rawInt f)))) T (fr.elim .none fun f=>rawInt f):=⟨_,_,hT,Obj.data_mapFields d2 _,by simp[z2]⟩
 have J:=I.write (t':=s.toks) (x:=T) (e:=T) (o:=tbH T) (by rw[h2];exact True.intro) (.inl rfl) (fun b u hb eb=>by rw[Heap.get?_update_other _ _ (Ne.symm hb)];exact eb) ⟨_,hT⟩ (tj fls.tb)
 have eH:upd H T (tbH T)=H:=by
  funext b
  by_cases q:b=T
  · subst q;rw[aI,h2]
  · rw[aJ q]
 rw[eH] at J
 exact h _ J ⟨T,h1,h2,fls⟩
theorem Inv.untracked(I:Inv X pins σ H s)(hT:s.heap.get? T=none):H T=none:=by
 cases q:H T with
 |none=>rfl
 |some o=>
  have q2:=I.hok T o q
  have:∃ob,s.heap.get? T=some ob:=by
   cases o with
   |lst xs=>obtain⟨_,_,_,_,e⟩:=q2;exact⟨_,e⟩
   |tup xs=>obtain⟨_,_,_,ob,e,_⟩:=q2;exact⟨_,e⟩
   |dK kvs=>obtain⟨_,_,_,_,o,_,_,e,_⟩:=q2;exact⟨_,e⟩
   |dT kvs=>obtain⟨_,_,_,_,o,_,_,e,_⟩:=q2;exact⟨_,e⟩
   |set S n=>obtain⟨o,_,_,_,e,_⟩:=q2;exact⟨_,e⟩
   |ins C dx fs=>obtain⟨_,_,_,e,_⟩:=q2;exact⟨_,e⟩
   |own y=>exact q2
   |xd fs=>obtain⟨_,⟨_,_,_,e,_⟩,_⟩:=q2;exact⟨_,e⟩
   |rng lo hi=>obtain⟨_,_,_,e⟩:=q2;exact⟨_,e⟩
   |frz ob u=>obtain⟨e,_⟩:=q2;exact⟨_,e⟩
   |tbl ps=>exact⟨_,(show s.heap.get? T=some _ from q2)⟩
   |met f y=>exact⟨_,(show s.heap.get? T=some _ from q2)⟩
   |ext φ=>obtain⟨_,e,_⟩:=q2;exact e
  obtain⟨ob,e⟩:=this
  rw[hT] at e
  cases e
theorem rJ{h':Heap}{sl:Array (Option Value)}{vs:Array Value}(I:Inv X pins σ H s)(hx:∃u,H a=some u∧Mut (some u))(he:s.heap.get? a=some ⟨.ref C,d, .fields vs,sl⟩)(hz:vs.size=6)
 (hT:s.heap.get? T=none)(k1:∀b o,b≠a→b∉frs X.stack→s.heap.get? b=some o→h'.get? b=some o)(k2:∀b o,b≠a→s.heap.get? b=some o→∃sl,h'.get? b=some {o with slots:=sl})
 (he':h'.get? a=some ⟨.ref C,d, .fields (vs.setIfInBounds 1 (.ref T)),sl⟩)(hf:FlS h' T fl):Inv X pins σ (upd (upd H T (tbH T)) a (L2.exT a C d T)) {s with heap:=h'}:=by
 obtain⟨u,hu,mu⟩:=hx
 have na:∀b,H b=none→b≠a:=fun b n z=>by subst z;rw[hu] at n;cases n
 have hTn:H T=none:=I.untracked hT
 have Ta:T≠a:=fun z=>by rw[z,he] at hT;cases hT
 have nT:∀b o,s.heap.get? b=some o→b≠T:=fun b o e z=>by rw[z,hT] at e;cases e
 have at_:∀b o,b≠a→H b=some o→(upd (upd H T (tbH T)) a (L2.exT a C d T)) b=some o:=fun b o n e=>by rw[aJ n,aJ (aG e hTn)];exact e
 have nfr:∀b o,H b=some o→b∉frs X.stack:=fun b o e z=>by rw[I.stkFree b z] at e;cases e
 have nm:∀b o,H b=some o→¬Mut (some o)→b≠a:=fun b o e n z=>by subst z;rw[hu] at e;cases e;exact n mu
 have hr:exR a C d T h':=⟨_,sl,he',by rw[Array.size_setIfInBounds];exact hz,by rw[Array.getElem?_setIfInBounds];simp[hz]⟩
 refine I.call (ch:=[]) ⟨fun b o e n hb _=>k1 b o (na b n) hb e,fun b o e n _ _=>k2 b o (na b n) e,fun b o e n _=> ?_,fun b o e _=> ?_,fun b xs e=>at_ b _ (nm b _ e fun z=>z) e,fun b o u e=>at_ b _ (nm b _ e fun z=>z) e,fun b ps e=>⟨#[],by rw[at_ b _ (nm b _ e fun z=>z) e];simp⟩⟩ (fun b o e=> ?_) I.bare (fun b z=>nomatch z)
 · rw[aJ (na b n),aJ (nT b o e)];exact n
 · by_cases z:b=a
   · subst z;exact⟨_,he'⟩
   · obtain⟨sl,q⟩:=k2 b o z e
     exact⟨_,q⟩
 · by_cases z:b=a
   · subst z
     rw[aI] at e
     cases e
     exact BP hr
   · rw[aJ z] at e
     by_cases y:b=T
     · subst y
       rw[aI] at e
       cases e
       exact tj hf.tb
     · rw[aJ y] at e
       refine(I.hok b o e).stay (fun c v hc q=>k1 c v (fun w=> ?_) (fun w=> ?_) q) (fun c q=>at_ c _ (nm c _ q fun z=>z) q) fun c xs q=>at_ c _ (nm c _ q fun z=>z) q
       · rcases hc with rfl|hc
         · exact z w
         · exact nm c _ hc (fun z=>z) w
       · rcases hc with rfl|hc
         · exact nfr c _ e w
         · exact nfr c _ hc w
theorem Lft.entry{H:Hp}{o u:HO}(hT:H T=none):Lft a H (upd (upd H T o) a u):=fun b v n e=>by rw[aJ n,aJ (aG e hT)];exact e
theorem qo{Q:Unit→Shared→Prop}(I:Inv X pins σ H s)(hst:X.stack=X.env::X.outer)(hfr:X.env.frame=some X.env.locals)(hu:Cg H s.heap a C d X.env.locals)
 (h:∀s' H',Inv X pins σ H' s'→Lft a H H'→xG H' s'.heap a C d (rawInt X.env.locals)→Q () s'):wpAny (model X.prog X.w) X.A (noteFrame (.ref a) X.env) Q E s:=by
 have hA:X.A.frames=some (X.env::X.outer):=by rw[←hst];exact I.ok.frames
 unfold noteFrame
 simp only[hfr]
 rcases hu with h1|⟨T0,h1,h2,fls⟩|⟨T0,h1,h2,fls⟩
 · obtain⟨vs,sl,e1,z,z1⟩:=I.exH h1
   refine wpAny_bind (wpAny_field e1 rfl z1 ?_)
   rw[if_neg (by decide)]
   refine nK hA (by rw[←hst];exact I.stack) hfr e1 (by omega) fun h' T hT k1 k2 he' hf=> ?_
   rw[←hst] at k1
   exact h _ _ (rJ I ⟨_,h1,True.intro⟩ e1 z hT k1 k2 he' hf) (.entry (I.untracked hT)) ⟨T,aI,by rw[aJ (fun q=>by rw[q,e1] at hT;cases hT),aI],hf⟩
 · obtain⟨vs,sl,e1,z,z1⟩:=I.exT h1
   obtain⟨oT,ts,e2,d2,z2⟩:=fls
   have hsz:=(Array.getElem?_eq_some_iff.mp z2).1
   refine wpAny_bind (wpAny_field e1 rfl z1 ?_)
   rw[if_pos (show (Value.ref T0 != Value.none)=true from by simp)]
   refine wpAny_bind (wpAny_field e2 d2 z2 ?_)
   rw[if_neg (show ¬((Value.none==rawInt X.env.locals)=true) from by simp[rawInt])]
   refine wpAny_bind (wpAny_setField e2 d2 hsz ?_)
   have hT0:=Heap.get?_update_self (Obj.mapFields (·.setIfInBounds 3 Value.none)) e2 (Obj.isFreed_of_fields (Obj.data_mapFields d2 _))
   have fl0:FlS (s.heap.update T0 (Obj.mapFields (·.setIfInBounds 3 Value.none))) T0 .none:=⟨_,_,hT0,Obj.data_mapFields d2 _,by simp[hsz]⟩
   have J:=I.write (t':=s.toks) (x:=T0) (e:=T0) (o:=tbH T0) (by rw[h2];exact True.intro) (.inl rfl) (fun b u hb eb=>by rw[Heap.get?_update_other _ _ (Ne.symm hb)];exact eb) ⟨_,hT0⟩ (tj fl0.tb)
   have eH:upd H T0 (tbH T0)=H:=by
    funext b
    by_cases q:b=T0
    · subst q;rw[aI,h2]
    · rw[aJ q]
   rw[eH] at J
   obtain⟨vs,sl,e1,z,z1⟩:=J.exT h1
   refine nK hA (by rw[←hst];exact J.stack) hfr e1 (by omega) fun h' T hT k1 k2 he' hf=> ?_
   rw[←hst] at k1
   exact h _ _ (rJ J ⟨_,h1,True.intro⟩ e1 z hT k1 k2 he' hf) (.entry (J.untracked hT)) ⟨T,aI,by rw[aJ (fun q=>by rw[q,e1] at hT;cases hT),aI],hf⟩
 · obtain⟨vs,sl,e1,z,z1⟩:=I.exT h1
   obtain⟨oT,ts,e2,d2,z2⟩:=id fls
   refine wpAny_bind (wpAny_field e1 rfl z1 ?_)
   rw[if_pos (show (Value.ref T0 != Value.none)=true from by simp)]
   refine wpAny_bind (wpAny_field e2 d2 z2 ?_)
   rw[if_pos (show (rawInt X.env.locals==rawInt X.env.locals)=true from by simp)]
   exact wpAny_pure (h _ _ I .refl ⟨T0,h1,h2,fls⟩)
def XE(X:Cx)(E:XK):Value→Shared→Prop:=fun e s=>∃a C d σ H H1,e= .ref a∧Inv X [] σ H s∧X.s₀.heap.get? a=none∧d≠some a∧Cg H s.heap a C d X.env.locals∧Lft a H1 H∧E (.ref C) d H1
structure Own1(X:Cx):Prop where
 stk:X.stack=X.env::X.outer
 fr:X.env.frame=some X.env.locals
 ex:X.ex=[]
theorem XE.own{E:XK}(o:Own1 X):PassesOwn (model X.prog X.w) X.A X.env (XE X E):=by
 rintro e s' ⟨a,C,d,σ,H,H1,rfl,I,h0,na,hu,lf,q⟩
 refine qo I o.stk o.fr hu fun s2 H2 I2 l2 ⟨T,h1,h2,fls⟩=> ?_
 obtain⟨vs,sl,e1,z,z1⟩:=I2.exT h1
 unfold cameBackBy
 refine wpAny_bind (wpAny_field e1 rfl z1 ?_)
 rw[if_neg (show ¬((Value.ref T==Value.none)=true) from by simp)]
 refine jk I2 h1 h2 fun s3 I3 f3=> ?_
 rw[o.fr] at f3
 exact⟨a,C,d,σ,H2,H1,rfl,I3,h0,na, .inr (.inr f3),lf.trans l2,q⟩
theorem XE.leave{E:XK}{e:Value}{F:Value→Shared→Prop}(o:Own1 X)(x:XE X E e s):wpAny (model X.prog X.w) X.A (leaving X.env e) (fun _ s'=>CX1 X.prog X.w X.outer X.H₀ X.s₀ E e s') F s:=by
 obtain⟨a,C,d,σ,H,H1,rfl,I,h0,na,hu,lf,q⟩:=x
 unfold leaving
 refine wpAny_bind (qo I o.stk o.fr hu fun s2 H2 I2 l2 ⟨T,h1,h2,fls⟩=> ?_)
 refine jk I2 h1 h2 fun s3 I3 f3=> ?_
 have b3:=I3.base
 rw[o.ex] at b3
 exact⟨a,C,d,H2,H1,rfl,I3.os,I3.bare,b3,I3.hok,h0,na,f3,lf.trans l2,q⟩
theorem Inv.nopins(I:Inv X pins σ H s):Inv X [] σ H s:=I.pins_of fun p h=>by cases h
theorem XE.pass{E:XK}(o:Own1 X):∀(pins:List (Addr×Obj)) (σ:St) (H:Hp) (s:Shared) (e:Value) (s':Shared),Inv X pins σ H s→CX1 X.prog X.w X.stack H s E e s'→XE X E e s':=by
 rintro pins σ H s e s' I ⟨a,C,d,H',H1,rfl,os,bare,un,hok,h0,na,fly,lf,q⟩
 have J:=(I.call' os un hok bare (fun b z=>nomatch z)).nopins
 refine⟨a,C,d,σ,H',H1,rfl,J, ?_,na, .inr (.inl fly),lf,q⟩
 cases z:X.s₀.heap.get? a with
 |none=>rfl
 |some ob=>
  obtain⟨o',e'⟩:=I.base.there a ob z (by rw[o.ex];simp)
  rw[h0] at e'
  cases e'
abbrev Cx.xw(X:Cx)(E:XK):Cx:=X.wish (XE X E)
theorem DN{E:XK}(o:Own1 X):kq (CX1 X.prog X.w) (X.xw E) E:=fun pins σ H s e s' I c=>XE.pass o pins σ H s e s' I.unwish c
theorem DO{E:XK}(o:Own1 X):PassesOwn (model (X.xw E).prog (X.xw E).w) (X.xw E).A (X.xw E).env (X.xw E).xe:=XE.own o
theorem PSs.xw{st:List Stmt}{t:TS}{E:XK}(h:PSs (X.xw E) st t)(hx:∀e s,XE X E e s→X.xe e s):PSs X st t:=fun pins s σ H D I hw=>
 wpAny_mono (h pins s σ H D (I.wish _) hw) (fun _ _ q=>q.unwish) fun e s z=>hx e s z
theorem FnOk.cx{P:Program}{w:World}{K:W.Frag}{mg:Str→Option Value}{base:Heap}{k:Nat}{f:Addr}{fd:FuncData}{ps:List Str}{sp:Sp}{CX:CXT}(F:FnOk P w K mg base CX0 k f fd ps sp):FnOk P w K mg base CX k f fd ps sp:=
 ⟨F.len,fun A outer s H args us vs Q E hr he hb hv hs=>codeAny_mono (F.run A outer s H args us vs Q E hr he hb hv hs) fun r s' q=>by
  cases r with
  |error e=>exact q.elim
  |ok fl=>cases fl<;>exact q⟩
theorem FnOk.or{P:Program}{w:World}{K:W.Frag}{mg:Str→Option Value}{base:Heap}{k:Nat}{f:Addr}{fd:FuncData}{ps:List Str}{sp sp':Sp}{CX:CXT}(F:FnOk P w K mg base CX k f fd ps sp)(G:FnOk P w K mg base CX k f fd ps sp'):FnOk P w K mg base CX k f fd ps (fun vs H Q E=>sp vs H Q E∨sp' vs H Q E):=
 ⟨fun vs H Q E h=>h.elim (F.len vs H Q E) (G.len vs H Q E),fun A outer s H args us vs Q E hr he hb hv hs=>hs.elim (F.run A outer s H args us vs Q E hr he hb hv) (G.run A outer s H args us vs Q E hr he hb hv)⟩
end
section
variable{P:Program}{w:World}{K:W.Frag}{mg:Str→Option Value}{base:Heap}
theorem eZ{CX:CXT}{N:List Str}{qual:Str}{scope:Scope}{f:Addr}{cd:Value}{A:Around}{outer:List Env}{s:Shared}{H:Hp}{E:XK}:Own1 (oH CX P w K mg base N qual scope f cd A outer s H E):=⟨rfl,rfl,rfl⟩
theorem zS{CX:CXT}{N:List Str}{qual:Str}{scope:Scope}{f:Addr}{cd:Value}{A:Around}{outer:List Env}{s:Shared}{H:Hp}{E:XK}:Own1 (oH CX P w K mg base N qual scope f cd A outer s H E).nox:=⟨rfl,rfl,rfl⟩
theorem Fun.okX{x qual:Str}{st:Stmt}{f:Addr}{fd:FuncData}{N ps:List Str}{k:Nat}{sp:Sp}(F:Fun K x qual st f fd)(S:FnScope N ps (au st))(len:∀vs H Q E,sp vs H Q E→vs.length=ps.length)
 (hbody:∀(cdv:Value) (A:Around) (outer:List Env) (s:Shared) (H:Hp) (vs:List V) (Q:VK) (E:XK),Room k (A.deeper (envOfC qual (au st) s.heap.objs.size f cdv))→sp vs H Q E→
  ∃t,PSs ((oH (CX1 P w) P w K mg base N qual (au st) f cdv A outer s H E).xw E) (aR st) t∧t {nx:=fun _ H'=>Q .non H',rt:=Q} (start N vs) H):FnOk P w K mg base (CX1 P w) (k+1) f fd ps sp:=by
 obtain⟨oc,od,kV,doc,pm,an,cdv,ct,osl,rfl,lk,hcd⟩:=F.ex
 refine v6 lk hcd S len fun A outer s H vs Q E hr hsp=> ?_
 obtain⟨t,h,q⟩:=hbody cdv A outer s H vs Q E hr hsp
 exact⟨t,h.xw fun e s' x=>XE.leave eZ x,q⟩
end
section
variable{Y:Cx}{E:XK}
def xH(K:W.Frag)(H0:Hp)(E:XK)(te:TE):TS:=fun _ σ H=>te σ H fun x H1=>∃a C d,x= .ref a∧H1 a=some (exH a C d)∧H0 a=none∧XCls K C∧W.typeIn K (.ref C)=some (.type "type")∧(∀dx,d=some dx→∃fs,H1 dx=some (exF dx fs))∧E (.ref C) d H1
theorem xI{M:Model}{A:Around}{F:Value→Shared→Prop}{s:Shared}{K:W.Frag}{env:Env}{x:Sem Value}{Q:Flow→Shared→Prop}(hh:A.handled=none)
 (h:wpAny M A x (fun v s1=>∃a C d vs sl od,v= .ref a∧K.In s1.heap∧W.InstAt s1.heap a ⟨.ref C,d, .fields vs,sl⟩ C od∧vs[1]? =some .none∧XCls K C∧W.typeIn K (.ref C)=some (.type "type")∧F (.ref a) s1) F s):wpAny M A (raiseStmt env (some x) none) Q F s:=by
 unfold raiseStmt
 refine wpAny_bind (wpAny_mono h (fun v s1 h1=> ?_) fun _ _ x=>x)
 obtain⟨a,C,d,vs,sl,od,rfl,KX,J,z1,c,ty,q⟩:=h1
 have sub:=c.under KX J (M:=M) "BaseException" (by decide)
 have t0:=J.type (M:=M)
 have t1:=W.looks_typeIn (M:=M) KX ty
 have e1:=J.1
 obtain⟨hp,g,dr,t,os⟩:=s1
 have nt:∀{Q:Bool→Shared→Prop},Q false ⟨hp,g,dr,t,os⟩→wpAny M A (isType (.ref a)) Q F ⟨hp,g,dr,t,os⟩:=fun {Q} k=>by
  unfold isType
  repeat (first|with_reducible refine wpAny_loadPart_at e1 ?_|wp_step)
  exact k
 refine wpAny_bind (wpAny_pure ?_)
 refine wpAny_bind (wpAny_holding ?_)
 unfold excFromValue isExcClass
 refine wpAny_bind (wpAny_bind (nt (wpAny_pure ?_)))
 rw[if_neg Bool.false_ne_true]
 refine wpAny_bind (sub.at ?_)
 rw[if_pos rfl]
 refine wpAny_pure ?_
 refine wpAny_bind (nt ?_)
 show wpAny M A (do let e ←raisedInstance (.ref a);setFlight e none;raiseNew e) Q F _
 refine wpAny_bind ?_
 unfold raisedInstance
 refine wpAny_bind (t0.at (wpAny_bind (t1.at ?_)))
 rw[if_pos (beq_self_eq_true _)]
 refine wpAny_pure ?_
 unfold setFlight
 refine wpAny_bind (wpAny_bind (wpAny_field e1 rfl z1 ?_))
 rw[if_neg (by decide)]
 exact wpAny_pure (wpAny_raiseNew_none hh q)
theorem jK{e:Expr}{pos:Pos}{te:TE}(o:Own1 Y)(hc:Y.calm=true)(he:PE (Y.xw E) e te):PS (Y.xw E) (.Raise (some e) none pos) (xH Y.K Y.H₀ E te):=by
 intro pins s σ H D I h
 rw[arm_exec_Raise]
 refine wpAny_bind (wpAny_standAt ?_)
 simp only[evalOpt,Option.map]
 refine xI (K:=Y.K) (I.ok.hd hc) (wpAny_bind (thn (he pins s σ H _ I h) fun u s1 ⟨x,H1,I1,rx,a,C,d,ex,h1,h0,c,ty,hd,q⟩=>wpAny_bind (wpAny_standAt (wpAny_pure ?_))))
 subst ex
 obtain rfl:u=Value.ref a:=rx
 obtain⟨vs,sl,e1,z,z1⟩:=I1.exH h1
 have J:∃od,W.InstAt s1.heap a ⟨.ref C,d, .fields vs,sl⟩ C od:=by
  cases d with
  |none=>exact⟨none,e1,rfl,rfl,True.intro⟩
  |some dx=>
   obtain⟨fs,h2⟩:=hd dx rfl
   obtain⟨mA,n1,_⟩:=I1.exF h2
   obtain⟨ob,es,ep,e2,_⟩:=n1
   exact⟨some ob,e1,rfl,rfl,e2⟩
 obtain⟨od,J⟩:=J
 refine⟨a,C,d,vs,sl,od,rfl,I1.kIn,J,z1,c,ty,a,C,d,σ,H1,H1,rfl,I1.unwish.nopins, ?_,fun z=> ?_, .inl h1, .refl,q⟩
 rotate_left
 · obtain⟨fs,h2⟩:=hd a z
   obtain⟨mA,⟨ob,es,ep,e2,d2,_⟩,_⟩:=I1.exF h2
   rw[e1] at e2
   cases e2
   cases d2
 cases zz:Y.s₀.heap.get? a with
 |none=>rfl
 |some ob=>
  have:=I1.base.free a ob zz h0 (by show a∉Y.ex;rw[o.ex];simp)
  rw[h1] at this
  cases this
end
theorem rK{M:Model}{A:Around}{F:Value→Shared→Prop}{s:Shared}{K:PySem.W.Frag}{a C W:Addr}{ox:Obj}{od:Option Obj}{Q:Bool→Shared→Prop}(KX:K.In s.heap)(J:PySem.W.InstAt s.heap a ox C od)(c:XCls K W)(ty:PySem.W.typeIn K (.ref W)=some (.type "type"))(sb:PySem.W.subIn K (.ref C) (.ref W)=some true)
 (h:Q true s):wpAny M A (excMatches (.ref a) (.ref W)) Q F s:=by
 have t0:=J.type (M:=M)
 have tt:PySem.W.Looks M s.heap (isInstance (.ref W) (.type "tuple")) false:=(PySem.W.looks_typeIn KX ty).andThen (PySem.W.Looks.of_pure tc_notTuple)
 have ts:=PySem.W.looks_subIn (M:=M) KX sb
 obtain⟨cd,hc,_,ht⟩:=c.cd
 have tb:PySem.W.Looks M s.heap (isSubtype (.ref W) (.type "BaseException")) true:=PySem.W.looks_mroIn KX (by unfold PySem.W.mroIn;rw[hc,Option.bind_some,if_neg (by rw[jf _ ht];decide),d5 "BaseException" (by decide) _ ht])
 obtain⟨c0,dd,slC,hC⟩:=pZ KX hc
 obtain⟨hp,g,dr,t,os⟩:=s
 have nt:∀{Q:Bool→Shared→Prop},Q true ⟨hp,g,dr,t,os⟩→wpAny M A (isType (.ref W)) Q F ⟨hp,g,dr,t,os⟩:=fun {Q} k=>by
  unfold isType
  repeat (first|with_reducible refine wpAny_loadPart_at hC ?_|wp_step)
  exact k
 unfold excMatches
 refine wpAny_bind (tt.at ?_)
 rw[if_neg Bool.false_ne_true]
 refine wpAny_bind (wpAny_pure ?_)
 simp only[List.forIn_cons,List.forIn_nil,bind_assoc,pure_bind,isExcClass]
 refine wpAny_bind (nt ?_)
 rw[if_pos rfl]
 refine wpAny_bind (tb.at ?_)
 simp only[Bool.not_true,Bool.false_eq_true,if_false,pure_bind]
 refine wpAny_bind (t0.at ?_)
 refine wpAny_bind (ts.at ?_)
 simp only[if_true,pure_bind]
 exact wpAny_pure h
section
variable{X:Cx}{E:XK}
abbrev Cx.inEx(X:Cx)(a:Addr):Cx:={X with A:=X.A.mark (some (.ref a)),calm:=false,xe:=fun _ _=>False}
theorem Inv.inEx{pins:List (Addr×Obj)}{σ:St}{H:Hp}{s:Shared}{a:Addr}(I:Inv X pins σ H s):Inv (X.inEx a) pins σ H s:=
 ⟨⟨I.ok.mod,I.ok.kind,I.ok.glob,I.ok.blt,I.ok.above,I.ok.inj,I.ok.has,I.ok.cab,(fun h=>nomatch h),I.ok.frames,I.ok.stk,I.ok.exf,I.ok.bs,I.ok.bsz,I.ok.noex,I.ok.exfs,I.ok.funs,I.ok.frf⟩,I.os,I.bare,I.base,I.loc,I.cell,I.free,I.freeC,I.pin,I.hok,I.len⟩
theorem Inv.outEx{pins:List (Addr×Obj)}{σ:St}{H:Hp}{s s1:Shared}{σ1:St}{H1:Hp}{a:Addr}(I0:Inv X pins σ1 H1 s1)(I:Inv (X.inEx a) pins σ H s):Inv X pins σ H s:=
 ⟨I0.ok,I.os,I.bare,I.base,I.loc,I.cell,I.free,I.freeC,I.pin,I.hok,I.len⟩
abbrev TSx:=(St→Hp→XK)→TS
def XG(X:Cx)(pins:List (Addr×Obj))(G:St→Hp→XK):Value→Shared→Prop:=fun e s=>∃a C d σ Hc H H1,e= .ref a∧Inv X pins σ H s∧Hc a=none∧d≠some a∧Cg H s.heap a C d X.env.locals∧Lft a H1 H∧G σ Hc (.ref C) d H1
def PSX(X:Cx)(st:Stmt)(t:TSx):Prop:=∀(pins:List (Addr×Obj)) (s:Shared) (σ:St) (H:Hp) (D:Ends) (G:St→Hp→XK),Inv X pins σ H s→t G D σ H→wpAny (model X.prog X.w) X.A (exec st X.env) (SP X pins D) (XG X pins G) s
theorem PSX.one{st:Stmt}{t:TSx}{pins:List (Addr×Obj)}{s:Shared}{σ:St}{H:Hp}{D:Ends}{G:St→Hp→XK}(h:PSX X st t)(I:Inv X pins σ H s)(q:t G D σ H):wpAny (model X.prog X.w) X.A (execs [st] X.env) (SP X pins D) (XG X pins G) s:=by
 refine wpAny_execs_cons (wpAny_mono (h pins s σ H D G I q) (fun f s1 q=> ?_) fun _ _ x=>x)
 cases f with
 |next=>exact wpAny_execs_nil q
 |brk=>exact q
 |cont=>exact q
 |ret u=>exact q
theorem Ch{c:Expr}{a b:Stmt}{tc:TT}{ta tb:TSx}{pos:Pos}(hc:∀F,PT (X.wish F) c tc)(ha:PSX X a ta)(hb:PSX X b tb):PSX X (.If c [a] [b] pos) (fun G D σ H=>tc σ H fun z H1=>if z=true then ta G D σ H1 else tb G D σ H1):=by
 intro pins s σ H D G I h
 refine wpAny_If (wpAny_mono (hc (XG X pins G) pins s σ H _ (I.wish _) h) (fun z s1 ⟨H1,I1,q⟩=> ?_) fun _ _ x=>x)
 cases z with
 |true=>exact ha.one I1.unwish q
 |false=>exact hb.one I1.unwish q
theorem zT{pins:List (Addr×Obj)}{σ:St}{H:Hp}{s:Shared}{Q:VK}{us:List Value}{vs:List V}{k:Nat}{f:Addr}{fd:FuncData}{ps:List Str}{sp:Sp}{G:St→Hp→XK}(F:FnOk X.prog X.w X.K X.mg X.base (CX1 X.prog X.w) k f fd ps sp)(hr:Room k X.A)(hb:Binds X.K fd ps [])
 (I:Inv X pins σ H s)(r:Vals vs us)(h:sp vs H Q (G σ H)):wpAny (model X.prog X.w) X.A (call (.ref f) us) (EP X pins σ Q) (XG X pins G) s:=by
 have r2:Vals vs (us++[]):=by rw[List.append_nil];exact r
 have hl:(us++[]).length=ps.length:=by rw[←r2.length];exact F.len _ _ _ _ h
 refine wpAny_call (codeAny_mono (F.run X.A X.stack s H ⟨us,[]⟩ (us++[]) vs Q (G σ H) hr I.env0 (hb s us I.kIn hl) r2 h) fun r s' hq=> ?_)
 cases r with
 |error e=>
  obtain⟨a,C,d,H',H1,rfl,os,bare,un,hok,h0,na,fly,lf,q⟩:=hq
  exact⟨a,C,d,σ,H,H',H1,rfl,I.call' os un hok bare (fun b z=>nomatch z),I.untracked h0,na, .inr (.inl fly),lf,q⟩
 |ok fl=>
  cases fl with
  |ret u=>exact I.after hq
  |next=>exact False.elim hq
  |brk=>exact False.elim hq
  |cont=>exact False.elim hq
theorem xJ{pins:List (Addr×Obj)}{σ:St}{H:Hp}{s:Shared}{Q:VK}{k:Nat}{f:Addr}{fd:FuncData}{ps:List Str}{sp:Sp}{G:St→Hp→XK}{x:Str}{p pos:Pos}{e:Expr}{es:List Expr}{t:TA}(F:FnOk X.prog X.w X.K X.mg X.base (CX1 X.prog X.w) k f fd ps sp)(hr:Room k X.A)(hg:Gl X x)(hm:X.mg x=some (.ref f))(hk:W.keepIn X.K (.ref f)=true)(hb:Binds X.K fd ps [])
 (ha:∀F,PA (X.wish F) (e::es) t)(I:Inv X pins σ H s)(h:t σ H fun vs H1=>sp vs H1 Q (G σ H1))(hdb:(x==("__debug__":Str))=false)(he:starEach (e::es) X.env=(false,eval e X.env)::starEach es X.env)(hpl:(backTo pos (starEach es X.env)).any (·.1)=false):
 wpAny (model X.prog X.w) X.A (eval (.Call (.Name x p) (e::es) [] pos) X.env) (EP X pins σ Q) (XG X pins G) s:=by
 refine wpAny_Call_Name_kw (jW I hg hm ?_ hdb)
 refine W.callWith_K (h₀:=X.base) I.ok.mod.kin hk (wpAny_mono (ha (XG X pins G) pos pins s σ H _ (I.wish _) h) (fun us s1 ⟨vs,H1,I1,r,q⟩=>⟨I1.kIn, ?_⟩) fun _ _ x=>x) he hpl
 exact zT F hr hb I1.unwish r q
def xK(sp:Sp)(t:TA):TSx:=fun G D σ H=>t σ H fun vs H1=>sp vs H1 (fun _ H2=>D.nx σ H2) (G σ H1)
theorem xL{k:Nat}{f:Addr}{fd:FuncData}{ps:List Str}{sp:Sp}{x:Str}{p pos pos':Pos}{e:Expr}{es:List Expr}{t:TA}(F:FnOk X.prog X.w X.K X.mg X.base (CX1 X.prog X.w) k f fd ps sp)(hr:Room k X.A)(hg:Gl X x)(hm:X.mg x=some (.ref f))(hk:W.keepIn X.K (.ref f)=true)(hb:Binds X.K fd ps [])
 (ha:∀F,PA (X.wish F) (e::es) t)(hdb:(x==("__debug__":Str))=false:=by decide)(he:starEach (e::es) X.env=(false,eval e X.env)::starEach es X.env:=by rfl)(hpl:(backTo pos (starEach es X.env)).any (·.1)=false:=by rfl)
 (hs:swapsWith (.Call (.Name x p) (e::es) [] pos) none pos'.line X.env=pure false:=by rfl):PSX X (.Expr (.Call (.Name x p) (e::es) [] pos) pos') (xK sp t):=by
 intro pins s σ H D G I h
 exact wpAny_Expr_any (wpAny_mono (xJ F hr hg hm hk hb ha I h hdb he hpl) (fun v s1 ⟨x,H1,I1,r1,q1⟩=>⟨σ,H1,I1,q1⟩) fun _ _ x=>x) I.quiet hs
theorem vF{A:Around}{F:Value→Shared→Prop}{pins:List (Addr×Obj)}{σ:St}{H:Hp}{s:Shared}{i:Nat}{n:Str}{pos:Pos}{Q:Unit→Shared→Prop}(I:Inv X pins σ H s)(hN:X.N.Nodup)(hi:X.N[i]? =some n)(hk:X.env.scope.names.lookup n=some .local)
 (h:∀s',Inv X pins (σ.set i none) H s'→Q () s'):wpAny (model X.prog X.w) A (do bindName X.env n .none;unbindBehindTheSuite X.env n pos) Q F s:=by
 obtain⟨m,hn,hl⟩:=id I.loc
 have hcls:(X.env.scope.kind== .class||(X.env.scope.kind== .module&&X.env.locals != X.env.globals))=false:=by rw[I.ok.kind];rfl
 have cne:=I.cne
 obtain⟨oL,_,_,hoL,_⟩:=id hn
 refine wpAny_nameGoes_keeps hk hn hcls fun h' v hn' hs=> ?_
 refine h _ ⟨I.ok,I.os,I.bare,⟨fun b o e n hb hx=> ?_,fun b o e n hb hx=> ?_,I.base.free,fun b o e hx=> ?_,I.base.tups,I.base.frzs,I.base.tbls⟩,⟨_,hn',fun j y v' e1 e2 e3=> ?_⟩,fun y c e=> ?_,I.free,I.freeC,fun p hp=> ?_,fun b ob e=> ?_,by simpa using I.len⟩
 · exact(hs.2 b (Nat.ne_of_lt (Nat.lt_of_lt_of_le (Heap.lt_size e) I.ok.above))).trans (I.base.keep b o e n hb hx)
 · obtain⟨sl,e1⟩:=I.base.slot b o e n hb hx
   exact⟨sl,(hs.2 b (Nat.ne_of_lt (Nat.lt_of_lt_of_le (Heap.lt_size e) I.ok.above))).trans e1⟩
 · obtain⟨o',e1⟩:=I.base.there b o e hx
   exact⟨o',(hs.2 b (Nat.ne_of_lt (Nat.lt_of_lt_of_le (Heap.lt_size e) I.ok.above))).trans e1⟩
 · by_cases hj:j=i
   · subst hj
     rw[List.getElem?_set] at e2
     split at e2
     · split at e2<;>cases e2
     · rename_i z;exact absurd rfl z
   · rw[List.getElem?_set_ne (Ne.symm hj)] at e2
     obtain⟨u',r',q⟩:=hl j y v' e1 e2 e3
     refine⟨u',r', ?_⟩
     rcases q with⟨k,e⟩|⟨k,c,e,z⟩
     · refine .inl ⟨k, ?_⟩
       have:y≠n:=fun e=>hj (mI hN e1 (e▸hi))
       simp[this,e]
     · exact .inr ⟨k,c,e,z.sameBut hs (cne y c e)⟩
 · obtain⟨w',z⟩:=I.cell y c e
   exact⟨w',z.sameBut hs (cne y c e)⟩
 · obtain⟨e,n,ne,nf,d⟩:=I.pin p hp
   exact⟨(hs.2 p.1 ne).trans e,n,ne,nf,d⟩
 · refine(I.hok b ob e).stay (fun c w' hc q=>(hs.2 c ?_).trans q) (fun _ q=>q) fun _ _ q=>q
   rintro rfl
   rcases hc with rfl|hc
   · rw[I.free] at e;cases e
   · rw[I.free] at hc;cases hc
def En(K:PySem.W.Frag)(W:Addr)(i:Nat)(tx:TSx)(ts:TS):TS:=fun D σ H=>tx (fun σ1 Hc c d H1=>∃C,c= .ref C∧PySem.W.subIn K (.ref C) (.ref W)=some true∧(∀dx,d=some dx→∃fs,H1 dx=some (exF dx fs))∧
 ∀a H',Hc a=none→d≠some a→Lft a H1 H'→ExAt H' a C d→ts {nx:=fun σ2 H2=>D.nx (σ2.set i none) H2,rt:=fun _ _=>False} (σ1.set i (some (.ref a))) H') D σ H
theorem Ci{st b₀:Stmt}{suite:List Stmt}{n:Str}{tW:Expr}{W:Addr}{i:Nat}{tx:TSx}{ts:TS}{pos pos':Pos}(o:Own1 X)(hb:PSX X st tx)(hW:∀a,PE (X.inEx a) tW (tC (.ref W)))(cW:XCls X.K W)(ty:PySem.W.typeIn X.K (.ref W)=some (.type "type"))
 (hs:∀a,PSs (X.inEx a) (b₀::suite) ts)(hN:X.N.Nodup)(hi:X.N[i]? =some n)(hk:X.env.scope.names.lookup n=some .local):PS X (.Try [st] [.ExceptHandler (some tW) (some n) (b₀::suite) pos'] [] [] pos) (En X.K W i tx ts):=by
 intro pins s σ H D I h
 refine wpAny_Try_except (wpAny_mono (hb.one I h) (fun f s1 q=> ?_) fun e s1 q=> ?_)
 · cases f with
   |next=>exact wpAny_execs_nil q
   |brk=>exact q
   |cont=>exact q
   |ret u=>exact q
 · obtain⟨a,C,d,σ1,Hc,H1,H0,rfl,I1,h0,na,fly,lf,C',ec,sb,hd,q⟩:=q
   have ec:=Value.ref.inj ec
   subst ec
   refine qo I1 o.stk o.fr fly fun s2 H2 I2 l2 ⟨T,h1,h2,fls⟩=> ?_
   refine jk I2 h1 h2 fun s3 I3 ⟨T3,h13,h23,fls3⟩=> ?_
   have q:=q a H2 h0 na (lf.trans l2) (.inr ⟨T,h1⟩)
   refine wpAny_handleBy_cons (codeAny_handlers_test (wpAny_mono (hW a pins s3 σ1 H2 (fun v H'=>v= .ref W∧H'=H2) I3.inEx ⟨rfl,rfl⟩) (fun u s4 ⟨v,H4,I4,rv,ev,eH⟩=> ?_) fun _ _ x=>x.elim)) (by intro q;cases q)
   subst eH ev
   obtain rfl:u=Value.ref W:=rv
   have I4:=I3.outEx I4
   obtain⟨vs,sl,e1,z,z1⟩:=I4.exT h1
   have J:∃od,PySem.W.InstAt s4.heap a ⟨.ref C,d, .fields vs,sl⟩ C od:=by
    cases d with
    |none=>exact⟨none,e1,rfl,rfl,True.intro⟩
    |some dx=>
     obtain⟨fs,hf⟩:=hd dx rfl
     by_cases za:dx=a
     · exact⟨some _,e1,rfl,rfl,by rw[za];exact e1⟩
     · obtain⟨mA,n1,_⟩:=I4.exF (lf.trans l2 dx _ za hf)
       obtain⟨ob,es,ep,e2,_⟩:=n1
       exact⟨some ob,e1,rfl,rfl,e2⟩
   obtain⟨od,J⟩:=J
   refine rK I4.kIn J cW ty sb ?_
   refine codeAny_handlers_suite_as ?_
   refine jk (X:=X.inEx a) I4.inEx h1 h2 fun s5 I5 f5=> ?_
   refine mJ (X:=X.inEx a) (v:= .ref a) I5 hN hi (.inl hk) rfl (fun s6 I6=> ?_) (.inr hk)
   refine wpAny_mono (hs a pins s6 _ H4 _ I6 q) (fun f s7 q=> ?_) fun _ _ x=>x.elim
   cases f with
   |next=>
    obtain⟨σ7,H7,I7,q⟩:=q
    exact vF (I4.outEx I7) hN hi hk fun s8 I8=>⟨_,H7,I8,q⟩
   |brk=>obtain⟨_,_,_,q⟩:=q;exact q.elim
   |cont=>obtain⟨_,_,_,q⟩:=q;exact q.elim
   |ret u=>obtain⟨_,_,_,_,_,q⟩:=q;exact q.elim
end
structure GotB(P:Program)(w:World)(K:W.Frag)(mg:Str→Option Value)(base:Heap)(k:Nat)(x:Str)(ps:List Str)(sp:Sp):Prop where
 ex:∃f fd,FnOk P w K mg base (CX1 P w) k f fd ps sp∧Binds K fd ps []∧W.keepIn K (.ref f)=true∧mg x=some (.ref f)
section
variable{Y:Cx}{E:XK}{k n:Nat}{x:Str}{ps:List Str}{sp:Sp}{p pos:Pos}{e:Expr}{es:List Expr}{t:TA}
theorem qp(o:Own1 Y)(g:GotB Y.prog Y.w Y.K Y.mg Y.base k x ps sp)(hr:Room n Y.A)(hk:k≤n)(hg:Gl (Y.xw E) x)(ha:PA (Y.xw E) (e::es) t)(hdb:(x==("__debug__":Str))=false:=by decide)
 (he:starEach (e::es) Y.env=(false,eval e Y.env)::starEach es Y.env:=by rfl)(hpl:(backTo pos (starEach es Y.env)).any (·.1)=false:=by rfl):
 PE (Y.xw E) (.Call (.Name x p) (e::es) [] pos) (jy sp [] E t):=by
 obtain⟨f,fd,F,hb,hkp,hm⟩:=g.ex
 exact t4 (X:=Y.xw E) F (hr.mono hk) hg hm hkp hb .nil (DN o) ha hdb he hpl
theorem xM{X:Cx}{pos':Pos}(g:GotB X.prog X.w X.K X.mg X.base k x ps sp)(hr:Room n X.A)(hk:k≤n)(hg:Gl X x)(ha:∀F,PA (X.wish F) (e::es) t)(hdb:(x==("__debug__":Str))=false:=by decide)
 (he:starEach (e::es) X.env=(false,eval e X.env)::starEach es X.env:=by rfl)(hpl:(backTo pos (starEach es X.env)).any (·.1)=false:=by rfl)
 (hs:swapsWith (.Call (.Name x p) (e::es) [] pos) none pos'.line X.env=pure false:=by rfl):PSX X (.Expr (.Call (.Name x p) (e::es) [] pos) pos') (xK sp t):=by
 obtain⟨f,fd,F,hb,hkp,hm⟩:=g.ex
 exact xL F (hr.mono hk) hg hm hkp hb ha hdb he hpl hs
end
def tm(u:Value):Bool:=match u with| .bool b=>b|_=>false
theorem nL:∀{bs:List Bool} {us:List Value},Vals (bs.map V.bl) us→us=bs.map Value.bool
 |[],_, .nil=>rfl
 |b::bs,_, .cons r rs=>by rw[show _=Value.bool b from r,nL rs];rfl
def AU(K:W.Frag):V→List V→Hp→VK→Prop:=fun x vs H Q=>∃(l:Addr) (bs:List Bool),x= .ref l∧vs=[.bl true]∧SqL K H l (bs.map V.bl)∧Q (.int ((bs.count true:Nat):Int)) H
def AV(K:W.Frag):V→List V→Hp→VK→Prop:=fun x vs H Q=>∃(l:Addr) (bs:List Bool) (j:Nat),x= .ref l∧vs=[.bl true]∧SqL K H l (bs.map V.bl)∧j<1000∧bs[j]? =some true∧(∀m,m<j→bs[m]? =some false)∧Q (.int (j:Int)) H
section
variable{X:Cx}
theorem xN(hu:X.A.units+64<cLine){pins:List (Addr×Obj)}{σ:St}{H:Hp}{s:Shared}(I:Inv X pins σ H s){bs:List Bool}:∀w∈(bs.map Value.bool).toArray,SeqAt.EqAt X.A.in1 s w (.bool true) (tm w):=fun w hw=>by
 have hw':w∈bs.map Value.bool:=by simpa using hw
 obtain⟨b,_,rfl⟩:=List.mem_map.mp hw'
 obtain⟨as,ra⟩:=(RdD.bl (K:=X.K) (H:=H) b).reads I rfl
 obtain⟨cs,rb⟩:=(RdD.bl (K:=X.K) (H:=H) true).reads I rfl
 have z:=SeqAt.eqAt_reads _ _ X.A.in1 s _ _ as cs ra rb rfl rfl (by show X.A.units+1+_<cLine;exact Nat.lt_of_le_of_lt (by show X.A.units+1+0≤X.A.units+64;omega) hu)
 have ev:PyData.eqv (.bool b) (.bool true)=tm (.bool b):=by cases b<;>rfl
 rw[ev] at z
 exact z
theorem zU(hu:X.A.units+64<cLine):MtR X "list.count" (AU X.K):=by
 intro pins s σ H x vs v us Q I rx rv h
 obtain⟨l,bs,rfl,rfl,hS,q⟩:=h
 cases rx
 obtain⟨u,rfl,ru⟩:=rv.one
 cases ru
 obtain⟨its,r,⟨o,n,e,hc,hd,hdt⟩,hz⟩:=I.list hS
 obtain⟨cls,dd,data,sl⟩:=o
 simp only at hc hd hdt
 subst hc hd hdt
 obtain rfl:=nL r
 refine call_meets F.slot_list_count ⟨_,e,rfl⟩ F.entry_list_count (F.args_list_count_2 _ _) (SeqAt.list_countAt l (bs.map Value.bool).toArray n none sl (.bool true) tm) ⟨e,xN hu I, ?_⟩
 have ec:(bs.map Value.bool).toArray.toList.countP tm=bs.count true:=by
  rw[List.toList_toArray,List.countP_map,List.count]
  exact List.countP_congr fun b _=>by cases b<;>simp[tm]
 rw[ec]
 exact⟨.int _,H,I.tok _,⟨_,rfl⟩,q⟩
theorem zV(hu:X.A.units+64<cLine):MtR X "list.index" (AV X.K):=by
 intro pins s σ H x vs v us Q I rx rv h
 obtain⟨l,bs,j,rfl,rfl,hS,hj,h1,h2,q⟩:=h
 cases rx
 obtain⟨u,rfl,ru⟩:=rv.one
 cases ru
 obtain⟨its,r,⟨o,n,e,hc,hd,hdt⟩,hz⟩:=I.list hS
 obtain⟨cls,dd,data,sl⟩:=o
 simp only at hc hd hdt
 subst hc hd hdt
 obtain rfl:=nL r
 have at_:∀(m:Nat) (hm:m<(bs.map Value.bool).toArray.size) (b:Bool),bs[m]? =some b→tm (bs.map Value.bool).toArray[m]=b:=fun m hm b hb=>by
  have hm':m<bs.length:=by simpa using hm
  rw[List.getElem?_eq_getElem hm'] at hb
  have:(bs.map Value.bool).toArray[m]=Value.bool bs[m]:=by simp
  rw[this,Option.some.inj hb]
  rfl
 have hl:j<bs.length:=(List.getElem?_eq_some_iff.mp h1).1
 refine call_meets F.slot_list_index ⟨_,e,rfl⟩ F.entry_list_index (F.args_list_index_2 _ _) (SeqAt.list_indexAt l (bs.map Value.bool).toArray n none sl (.bool true) tm j (by simpa using hl) (by omega) (at_ j _ true h1) (fun m hm hlt=>at_ m hm false (h2 m hlt))) ⟨e,xN hu I,⟨.int _,H,I.tok _,⟨_,rfl⟩,q⟩⟩
end
end L2
namespace PD
open PySem L2
structure Ex where
 ms:List Str
 fs:List (Str×D)
def RdX(K:W.Frag)(ns:List Str)(C:Addr)(d:Option Addr)(H:Hp)(x:Ex):Prop:=∃dx gs,d=some dx∧H dx=some (exF dx gs)∧XKd K ns C x.ms (x.fs.map Prod.fst)∧∀p∈x.fs,∃v,gs.lookup p.1=some v∧Rd K ns (fun _=>False) H v p.2
abbrev XF:=Env→Option Ex
def spX(K:W.Frag)(ns:List Str)(n:Nat)(X:List D→Option Ex):Sp:=fun vs H _ E=>∃(L:Addr→Prop) (ds:List D) (x:Ex),ds.length=n∧Rds K ns L H vs ds∧X ds=some x∧∀C d H',Same H H'→RdX K ns C d H' x→E (.ref C) d H'
abbrev spB(K:W.Frag)(ns:List Str)(fr:Fr)(n:Nat)(F:List D→Option D)(X:List D→Option Ex):Sp:=fun vs H Q E=>spP K ns fr n F vs H Q E∨spX K ns n X vs H Q E
def i4(X:List D→Option Ex)(f:AF):XF:=fun env=>(f env).bind X
def fY(ms:List Str)(f:VF):XF:=fun env=>(f env).bind fun d=>if d.flat=true then some ⟨ms,[("row",d)]⟩ else none
def zW(i:Nat)(R:XF):XF:=fun env=>(eX i env).bind fun _=>R env
def ifR(c:BF)(F G:XF):XF:=fun env=>(c env).bind fun b=>if b=true then F env else G env
def mq(F:SF)(G:XF):XF:=fun env=>(F env).bind fun| .nx e=>G e|_=>none
def nM(R:XF)(F:SF)(G:XF):XF:=fun env=>match R env with|some x=>some x|none=>mq F G env
def noR:XF:=fun _=>none
def whR(c:BF)(R:XF)(b:SF):Nat→XF
 |0,_=>none
 |n+1,env=>(c env).bind fun x=>if x=true then(match R env with|some y=>some y|none=>(b env).bind fun
  | .nx e=>whR c R b n e
  | .ct e=>whR c R b n e
  |_=>none) else none
def whX(c:BF)(R:XF)(b:SF):XF:=whR c R b 1000000
section
variable(K:W.Frag)(ns:List Str)(E:XK)
def Cj(t:TE)(R:XF):Prop:=∀(L:Addr→Prop) (env:Env) (σ:St) (H:Hp) (Q:VK) (x:Ex),EnvR K ns L env σ H→R env=some x→(∀C d H',Same H H'→RdX K ns C d H' x→E (.ref C) d H')→t σ H Q
def PuR(H0:Hp)(fl:List Bool)(t:TS)(R:XF):Prop:=∀(L0:Addr→Prop) (O:List (Option Addr)) (env:Env) (σ:St) (H:Hp) (D:Ends) (x:Ex),Iv K ns fl L0 H0 O env σ H→R env=some x→(∀C d H',Same H0 H'→RdX K ns C d H' x→E (.ref C) d H')→t D σ H
def AW(sp:Sp)(C:Addr):Prop:=∀(n:V) (H:Hp) (R:Hp→Prop) (E:XK) (e:Addr),H e=none→(∀H' dx gs,Same H H'→H' e=some (exH e C (some dx))→H' dx=some (exF dx gs)→gs.lookup ("row":Str)=some n→R H')→sp [.ref e,n] (upd H e (exH e C none)) (fun v H2=>v= .non∧R H2) E
end
section
variable{K:W.Frag}{ns:List Str}{E:XK}{H0:Hp}{fl fl':List Bool}{t u:TS}{te:TE}{R RF RG:XF}{F:SF}{f:VF}
theorem kS{n:Nat}{X:List D→Option Ex}{vs:List V}{H:Hp}{Q:VK}{E:XK}(h:spX K ns n X vs H Q E):vs.length=n:=by
 obtain⟨L,ds,d,hl,r,_⟩:=h
 rw[r.len,hl]
theorem my{fr:Fr}{n:Nat}{F:List D→Option D}{X:List D→Option Ex}{t:TA}{f:AF}(h:PuA K ns n t f):Cj K ns E (jy (spB K ns fr n F X) [] E t) (i4 X f):=by
 intro L env σ H Q x he hr k
 obtain⟨as,ea,hx⟩:=bnd hr
 exact h L env σ H _ as he ea fun xs H1 hl S1 rx=> .inr ⟨Nw L H,as,x,hl,by rw[List.append_nil];exact rx,hx,fun C d H' S r=>k C d H' (S1.trans S) r⟩
theorem tq{n:Nat}{F:List D→Option D}{X:List D→Option Ex}{t:TA}{f:AF}{E:XK}(h:PuA K ns n t f):PuE K ns (jy (spB K ns .no n F X) [] E t) (ap F f):=by
 intro L env σ H Q d he hf k
 obtain⟨a,ea,hf⟩:=bnd hf
 refine h L env σ H _ a he ea fun xs H1 hl S1 rx=> .inl ⟨Nw L H,a,d,hl,by rw[List.append_nil];exact rx,hf,fun v H2 S2 r=>k v H2 (S1.trans S2) (Rd.mono (fun _ q=>nw2 S1 q) .refl (show Rd K ns (Nw (Nw L H) H1) H2 v d from r))⟩
theorem zX{n:Nat}{F:List D→Option D}{X:List D→Option Ex}{t:TA}{f:AF}{E:XK}(h:PuA K ns n t f):PuF K ns (jy (spB K ns .yes n F X) [] E t) (ap F f):=by
 intro L env σ H Q d he hf k
 obtain⟨a,ea,hf⟩:=bnd hf
 refine h L env σ H _ a he ea fun xs H1 hl S1 rx=> .inl ⟨Nw L H,a,d,hl,by rw[List.append_nil];exact rx,hf,fun v H2 S2 r=> ?_⟩
 obtain⟨p,us,ds,rfl,ed,hp,hl2,rr⟩:=(show ∃p us ds,v= .ref p∧d= .lst ds∧H1 p=none∧H2 p=some (.lst us)∧Rds K ns (fun a=>Nw (Nw L H) H1 a∧a≠p) H2 us ds from r)
 exact k p us ds H2 ed (S1.trans S2) (gG S1 hp) hl2 (rr.mono (fun _ q=>⟨nw2 S1 q.1,q.2⟩) .refl)
theorem zY{n:Nat}{F:List D→Option D}{X:List D→Option Ex}{t:TA}{f:AF}{E:XK}(h:PuA K ns n t f):PuE K ns (jy (spB K ns .pr n F X) [] E t) (ap F f):=by
 intro L env σ H Q d he hf k
 obtain⟨a,ea,hf⟩:=bnd hf
 refine h L env σ H _ a he ea fun xs H1 hl S1 rx=> .inl ⟨Nw L H,a,d,hl,by rw[List.append_nil];exact rx,hf,fun v H2 S2 r=> ?_⟩
 obtain⟨T,p,us,ds,v2,d2,rfl,rfl,hT,hp,hl2,rr,r2⟩:=r
 exact k _ H2 (S1.trans S2) (.tup hT (.cons (.lst (.inr (gG S1 hp)) hl2 (rr.mono (fun _ q=>nw2 S1 q.1) .refl)) (.cons (r2.mono (fun _ q=>q.elim) .refl) .nil)))
theorem xO{g:TG}(h:Cj K ns E te R):PuR K ns E H0 fl (mL te g) R:=fun L0 O env σ H D x I hr k=>h _ env σ H _ x I.weak hr fun C d H' S r=>k C d H' (I.sm.trans S) r
theorem nN:PuR K ns E H0 fl t noR:=fun _ _ _ _ _ _ _ _ hr _=>by cases hr
theorem DP(i:Nat)(h:Cj K ns E te R)(hi:fl[i]? =some true):PuR K ns E H0 fl (re (tBM K "list" kI (iX i) (bO te iC))) (zW i R):=by
 intro L0 O env σ H D x I hr k
 obtain⟨xs,e1,hr⟩:=bnd hr
 rcases qi I hi with hn|⟨p,vs,ds,ho,hs,hd,hp,r⟩
 · rw[hn] at e1;cases e1
 · exact⟨_,hs, .inl ⟨rfl,_,SqL.of hp⟩,h _ env σ H _ x I.weak hr fun C d H' S r=>k C d H' (I.sm.trans S) r⟩
theorem xP{c:TT}{fc:BF}(h:PuT K ns c fc)(a:PuR K ns E H0 fl t RF)(b:PuR K ns E H0 fl u RG):PuR K ns E H0 fl (vS c t u) (ifR fc RF RG):=by
 intro L0 O env σ H D x I hr k
 obtain⟨z,ez,hr⟩:=bnd hr
 refine h _ env σ H _ z I.weak ez fun H' S=> ?_
 cases z with
 |true=>rw[if_pos rfl] at hr ⊢;exact a L0 O env σ H' D x (I.same S) hr k
 |false=>rw[if_neg Bool.false_ne_true] at hr ⊢;exact b L0 O env σ H' D x (I.same S) hr k
theorem jm{fr:Fr}{lf:List Bool}(a:PuS K ns fr lf fl t F fl')(b:PuR K ns E H0 fl' u RG):PuR K ns E H0 fl (oG t u) (mq F RG):=by
 intro L0 O env σ H D x I hr k
 refine a L0 H0 O env σ H _ I ?_
 obtain⟨o,eo,hr⟩:=bnd hr
 rw[eo]
 cases o with
 |nx e=>exact fun O' σ' H' T I'=>b L0 O' e σ' H' D x I' hr k
 |rt d=>cases hr
 |bk e=>cases hr
 |ct e=>cases hr
theorem uy{fr:Fr}{lf:List Bool}(ra:PuR K ns E H0 fl t RF)(a:PuS K ns fr lf fl t F fl')(b:PuR K ns E H0 fl' u RG):PuR K ns E H0 fl (oG t u) (nM RF F RG):=by
 intro L0 O env σ H D x I hr k
 unfold nM at hr
 cases e:RF env with
 |some y=>
  rw[e] at hr
  cases hr
  exact ra L0 O env σ H _ x I e k
 |none=>
  rw[e] at hr
  exact jm a b L0 O env σ H D x I hr k
theorem rM{fr:Fr}{lf fl'':List Bool}:PuS K ns fr lf fl t nvS fl'':=fun _ _ _ _ _ _ _ _ k=>k.elim
theorem ky(ra:PuR K ns E H0 fl t RF):PuR K ns E H0 fl (oG t u) RF:=fun L0 O env σ H _ x I hr k=>ra L0 O env σ H _ x I hr k
theorem uz{c:TT}{fc:BF}{fr:Fr}(hc:PuT K ns c fc)(ra:PuR K ns E H0 fl t R)(hb:PuS K ns fr fl fl t F fl):PuR K ns E H0 fl (ss c t) (whX fc R F):=by
 intro L0 O env σ H D x I hr k
 unfold whX at hr
 refine⟨fun m σ2 H2=>∃O2 e2,Iv K ns fl L0 H0 O2 e2 σ2 H2∧whR fc R F m e2=some x,⟨1000000,O,env,I,hr⟩, ?_⟩
 rintro m σ2 H2 ⟨O2,e2,I2,k2⟩
 cases m with
 |zero=>cases k2
 |succ m=>
  rw[whR] at k2
  obtain⟨z,ez,k2⟩:=bnd k2
  refine hc _ e2 σ2 H2 _ z I2.weak ez fun H3 S3=> ?_
  cases z with
  |false=>rw[if_neg Bool.false_ne_true] at k2;cases k2
  |true=>
   rw[if_pos rfl] at k2 ⊢
   refine⟨fun σ' H'=>∃m',m'<m+1∧∃O2 e2,Iv K ns fl L0 H0 O2 e2 σ' H'∧whR fc R F m' e2=some x,fun σ' H' h=>h, ?_⟩
   cases er:R e2 with
   |some y=>
    rw[er] at k2
    cases k2
    exact ra L0 O2 e2 σ2 H3 _ x (I2.same S3) er k
   |none=>
    rw[er] at k2
    refine hb L0 H0 O2 e2 σ2 H3 _ (I2.same S3) ?_
    obtain⟨o,eo,k2⟩:=bnd k2
    rw[eo]
    cases o with
    |nx e4=>exact fun O5 σ5 H5 T5 I5=>⟨m,by omega,O5,e4,I5,k2⟩
    |ct e4=>exact fun O5 σ5 H5 T5 I5=>⟨m,by omega,O5,e4,I5,k2⟩
    |bk e4=>cases k2
    |rt d=>cases k2
theorem kT{C:Addr}{ms:List Str}{sp:Sp}(d:XKd K ns C ms ["row"])(m:AW sp C)(h:PuE K ns te f):PuR K ns E H0 fl (xH K H0 E (sL C sp [] E0 (bO te iC))) (fY ms f):=by
 intro L0 O env σ H D x I hr k
 obtain⟨n,en,hr⟩:=bnd hr
 split at hr
 · rename_i hf
   cases hr
   refine h _ env σ H _ n I.weak en fun v H1 S1 rv=>⟨by show 1≤1000;decide,fun e he=>m v H1 _ _ e he fun H' dx gs S e1 e2 l=>⟨e,C,some dx,rfl,e1,gG (I.sm.trans S1) he,d.is.cls,d.ty,fun dy q=>by cases q;exact⟨gs,e2⟩,k C _ H' (I.sm.trans (S1.trans S)) ⟨dx,gs,rfl,e2,d,fun p hp=> ?_⟩⟩⟩
   rw[List.mem_singleton.mp hp]
   exact⟨v,l,(rv.flat hf).same S⟩
 · cases hr
def j9(n:Nat)(b:XF)(ds:List D):Option Ex:=b (io n ds)
theorem kU{b:XF}{n m:Nat}{N:List Str}{vs:List V}{H:Hp}{Q:VK}{D:Ends}(h:PuR K ns E H (List.replicate n false) t b)(hN:N.length=n)(hm:m≤n)(s:spX K ns m (j9 n b) vs H Q E):t D (start N vs) H:=by
 obtain⟨L,ds,x,hl,r,hx,k⟩:=s
 exact h L _ _ _ _ D x (kP r hN (by omega)) hx k
end
def zZ(K:W.Frag)(ns:List Str)(n:Nat)(t:TA)(f:AF):Prop:=∀(L:Addr→Prop) (env:Env) (σ:St) (H:Hp) (Q:List V→Hp→Prop) (ds:List D),EnvR K ns L env σ H→f env=some ds→(∀vs H',ds.length=n→Same H H'→Rds K ns (Zn H) H' vs ds→Q vs H')→t σ H Q
section
variable{K:W.Frag}{ns:List Str}
theorem Ck:zZ K ns 0 iC ao:=fun _ _ _ H _ _ _ hf k=>by cases hf;exact k [] H rfl (Same.refl _) .nil
theorem qq{n:Nat}{ta:TE}{fa:VF}{tr:TA}{fr:AF}(ha:PuX K ns ta fa)(hr:zZ K ns n tr fr):zZ K ns (n+1) (bO ta tr) (ae fa fr):=by
 intro L env σ H Q ds he hf k
 obtain⟨a,ea,hf⟩:=bnd hf
 obtain⟨r,er,hf⟩:=bnd hf
 cases hf
 refine ha L env σ H _ a he ea fun x H1 S1 rx=>hr (Nw L H) env σ H1 _ r (he.nw S1) er fun ys H2 hl S2 ry=> ?_
 exact k _ H2 (congrArg Nat.succ hl) (S1.trans S2) (.cons (rx.mono (fun _ q=>q) (.of S2)) (ry.mono (fun _ q=>gG S1 q) .refl))
theorem uA{t:TE}{f:VF}(h:PuE K ns t f):PuX K ns t (flatV f):=by
 intro L env σ H Q d he hf k
 obtain⟨d',ed,hf⟩:=bnd hf
 split at hf
 · rename_i hd
   cases hf
   exact h L env σ H Q d he ed fun v H' S r=>k v H' S (r.flat hd)
 · cases hf
theorem Cm{t:TE}{f:VF}(h:PuF K ns t f):PuX K ns t (flsV f):=by
 intro L env σ H Q d he hf k
 obtain⟨d',ed,hf⟩:=bnd hf
 refine h L env σ H Q d' he ed fun p vs ds H' e S hp hl r=> ?_
 subst e
 have hf:(if flats ds=true then some (D.lst ds) else none)=some d:=hf
 split at hf
 · rename_i hd
   cases hf
   exact k _ H' S (.lst hp hl (r.flat hd))
 · cases hf
theorem Cn{n:Nat}{t:TA}{f:AF}(h:zZ K ns n t f)(hn:n≤sizeLine:=by decide):PuX K ns (vf t) (cu f):=by
 intro L env σ H Q d he hf k
 obtain⟨a,ea,hf⟩:=bnd hf
 cases hf
 refine h L env σ H _ a he ea fun vs H1 hl S1 rx=>⟨by rw[rx.len,hl];exact hn,fun p hp=> ?_⟩
 have N:=aV hp (.tup vs)
 exact k _ _ (S1.trans N) (.tup aI (rx.same N))
end
end PD
namespace Kl
open PySem L2 PD
def top(i:Nat):Stmt:=PySem.Challenge.pw_ballastway_k18_load_rows_refused.main.body.getD i (.Pass ⟨0,0,0,0⟩)
def kNames:List Str:=["WayError","TextError","BadRow","Twice","NoBridge","NoLoad","TooNear","TooLong","Cart"]
abbrev cG:Stmt:=t7 (top 8) 0
local macro_rules | `(tactic| cell_call) => `(tactic| exact ⟨rfl,rfl,rfl,by decide+kernel,rfl,by decide+kernel,by decide+kernel⟩)
local macro_rules | `(tactic| boot_fact) => `(tactic| decide+kernel)
theorem kW:FnScope ["self","row"] ["self","row"] (au cG):=by cell_call
abbrev fg:Stmt:=t7 (top 16) 0
theorem qr:FnScope ["self","name","speed","wheels"] ["self","name","speed","wheels"] (au fg):=by cell_call
abbrev fZ:Stmt:=top 17
theorem tu:FnScope ["wheels"] ["wheels"] (au fZ):=by cell_call
theorem qt:CompC (au fZ) ["wheels"] ({kind:=ScopeKind.function,names:=[(Str.ofString ".0",NameKind.local),(Str.ofString "wheel",NameKind.local)],isGenerator:=false,isCoroutine:=false,more:=[]:Scope}) "wheel" [] []:=⟨rfl,by boot_fact,by boot_fact,by boot_fact,by boot_fact,by boot_fact,by boot_fact,by boot_fact,by boot_fact⟩
abbrev d9:Stmt:=top 23
theorem qu:FnScope ["text","signs","most"] ["text","signs","most"] (au d9):=by cell_call
theorem nO:CompC (au d9) ["text","signs","most"] ({kind:=ScopeKind.function,names:=[(Str.ofString ".0",NameKind.local),(Str.ofString "sign",NameKind.local),(Str.ofString "signs",NameKind.free)],isGenerator:=false,isCoroutine:=false,more:=[]:Scope}) "sign" ["signs"] [1]:=⟨rfl,by boot_fact,by boot_fact,by boot_fact,by boot_fact,by boot_fact,by boot_fact,by boot_fact,by boot_fact⟩
abbrev bS:Stmt:=top 24
theorem kX:FnScope ["text","most","number"] ["text","most"] (au bS):=by cell_call
abbrev hV:Stmt:=top 25
theorem tw:FnScope ["text"] ["text"] (au hV):=by cell_call
abbrev hZ:Stmt:=top 27
theorem tz:FnScope ["text"] ["text"] (au hZ):=by cell_call
abbrev gb:Stmt:=top 28
theorem rO:FnScope ["rows","place"] ["rows","place"] (au gb):=by cell_call
abbrev dL:Stmt:=top 29
theorem nQ:FnScope ["words","kinds"] ["words","kinds"] (au dL):=by cell_call
abbrev cT:Stmt:=top 30
theorem i5:FnScope ["text","bound","number"] ["text","bound"] (au cT):=by cell_call
abbrev dE:Stmt:=top 31
theorem kf:FnScope ["texts","bounds","numbers"] ["texts","bounds"] (au dE):=by cell_call
theorem gN:CompCT (au dE) ["texts","bounds","numbers"] ({kind:=ScopeKind.function,names:=[(Str.ofString ".0",NameKind.local),(Str.ofString "text",NameKind.local),(Str.ofString "bound",NameKind.local),(Str.ofString "number_within",NameKind.globalImplicit)],isGenerator:=false,isCoroutine:=false,more:=[]:Scope}) ["text","bound"] [] []:=⟨rfl,by boot_fact,by boot_fact,by boot_fact,by boot_fact,by boot_fact,by boot_fact,by boot_fact,by boot_fact⟩
abbrev fj:Stmt:=top 32
theorem qw:FnScope ["words","kind","bounds"] ["words","kind","bounds"] (au fj):=by cell_call
abbrev fk:Stmt:=top 33
theorem kY:FnScope ["words","kind","bounds","numbers"] ["words","kind","bounds"] (au fk):=by cell_call
abbrev du:Stmt:=top 35
theorem gX:FnScope ["words","number","loads","told"] ["words","number","loads"] (au du):=by cell_call
theorem jL:CompC (au du) ["words","number","loads","told"] ({kind:=ScopeKind.function,names:=[(Str.ofString ".0",NameKind.local),(Str.ofString "load",NameKind.local)],isGenerator:=false,isCoroutine:=false,more:=[]:Scope}) "load" [] []:=⟨rfl,by boot_fact,by boot_fact,by boot_fact,by boot_fact,by boot_fact,by boot_fact,by boot_fact,by boot_fact⟩
abbrev dF:Stmt:=top 36
theorem dM:FnScope ["words","number","wheels","numbers","wheel"] ["words","number","wheels"] (au dF):=by cell_call
abbrev dc:Stmt:=top 37
theorem dg:FnScope ["rows","place","first","wheels"] ["rows","place","first"] (au dc):=by cell_call
abbrev dG:Stmt:=top 38
theorem bE:FnScope ["rows","first","loads","place","head","wheels"] ["rows","first"] (au dG):=by cell_call
abbrev e8:Stmt:=top 39
theorem fo:FnScope ["text","rows","told"] ["text"] (au e8):=by cell_call
abbrev gc:Stmt:=top 41
theorem rP:FnScope ["_law_script","_law_k"] ["_law_script","_law_k"] (au gc):=by cell_call
abbrev h9:Stmt:=top 42
theorem nR:FnScope ["_law_cell_here","_law_one","_law_prime","_law_drawn"] ["_law_cell_here","_law_one","_law_prime"] (au h9):=by cell_call
abbrev eh:Stmt:=top 43
theorem cA:FnScope ["_law_cell_here","_law_letters","_law_drawn","_law_size","_law_at","_law_fill","_law_found","_law_k","_law_sign"] ["_law_cell_here"] (au eh):=by cell_call
theorem nS:CompC (au eh) ["_law_cell_here","_law_letters","_law_drawn","_law_size","_law_at","_law_fill","_law_found","_law_k","_law_sign"] ({kind:=ScopeKind.function,names:=[(Str.ofString ".0",NameKind.local),(Str.ofString "_law_k",NameKind.local),(Str.ofString "_law_drawn",NameKind.free),(Str.ofString "_law_fill",NameKind.free)],isGenerator:=false,isCoroutine:=false,more:=[]:Scope}) "_law_k" ["_law_drawn","_law_fill"] [2,5]:=⟨rfl,by boot_fact,by boot_fact,by boot_fact,by boot_fact,by boot_fact,by boot_fact,by boot_fact,by boot_fact⟩
abbrev eF:Stmt:=top 44
theorem bN:FnScope ["_law_cell_here","_law_many","_law_wheels_here","_law_left","_law_k","_law_drawn","_law_most","_law_gap","_law_high","_law_low"] ["_law_cell_here","_law_many"] (au eF):=by cell_call
abbrev fq:Stmt:=top 45
theorem cZ:FnScope ["_law_script","_law_most","_law_names_here","_law_many","_law_loads_here","_law_k","_law_cell_here","_law_drawn","_law_speed"] ["_law_script","_law_most"] (au fq):=by cell_call
abbrev cw:Stmt:=top 46
theorem cH:FnScope ["_law_loads_here","_law_rows","_law_name","_law_speed","_law_wheels_here","_law_wheel"] ["_law_loads_here"] (au cw):=by cell_call
theorem kA:CompC (au cw) ["_law_loads_here","_law_rows","_law_name","_law_speed","_law_wheels_here","_law_wheel"] ({kind:=ScopeKind.function,names:=[(Str.ofString ".0",NameKind.local),(Str.ofString "_law_number_here",NameKind.local),(Str.ofString "str",NameKind.globalImplicit)],isGenerator:=false,isCoroutine:=false,more:=[]:Scope}) "_law_number_here" [] []:=⟨rfl,by boot_fact,by boot_fact,by boot_fact,by boot_fact,by boot_fact,by boot_fact,by boot_fact,by boot_fact⟩
abbrev eG:Stmt:=top 47
theorem oP:FnScope ["_law_found"] ["_law_found"] (au eG):=by cell_call
abbrev dN:Stmt:=top 48
theorem dh:FnScope ["_law_rows","_law_first","_law_caught","e","_law_kinds"] ["_law_rows","_law_first"] (au dN):=by cell_call
abbrev cI:Stmt:=top 49
theorem fR:FnScope ["_law_drawn","_law_least","_law_most","_law_some"] ["_law_drawn","_law_least","_law_most"] (au cI):=by cell_call
abbrev ge:Stmt:=top 50
theorem dv:FnScope ["_law_row","_law_drawn","_law_words","_law_more","_law_tabbed","_law_at","_law_bad"] ["_law_row","_law_drawn"] (au ge):=by cell_call
abbrev dz:Stmt:=top 51
theorem da:FnScope ["_law_rows","_law_loads_here","_law_names_here","_law_drawn","_law_way","_law_more","_law_at","_law_begin","_law_end","_law_far","_law_told"] ["_law_rows","_law_loads_here","_law_names_here","_law_drawn"] (au dz):=by cell_call
theorem nU:CompC (au dz) ["_law_rows","_law_loads_here","_law_names_here","_law_drawn","_law_way","_law_more","_law_at","_law_begin","_law_end","_law_far","_law_told"] ({kind:=ScopeKind.function,names:=[(Str.ofString ".0",NameKind.local),(Str.ofString "_law_load",NameKind.local),(Str.ofString "len",NameKind.globalImplicit)],isGenerator:=false,isCoroutine:=false,more:=[]:Scope}) "_law_load" [] []:=⟨rfl,by boot_fact,by boot_fact,by boot_fact,by boot_fact,by boot_fact,by boot_fact,by boot_fact,by boot_fact⟩
theorem nV:CompC (au dz) ["_law_rows","_law_loads_here","_law_names_here","_law_drawn","_law_way","_law_more","_law_at","_law_begin","_law_end","_law_far","_law_told"] ({kind:=ScopeKind.function,names:=[(Str.ofString ".0",NameKind.local),(Str.ofString "_law_wheel",NameKind.local)],isGenerator:=false,isCoroutine:=false,more:=[]:Scope}) "_law_wheel" [] []:=⟨rfl,by boot_fact,by boot_fact,by boot_fact,by boot_fact,by boot_fact,by boot_fact,by boot_fact,by boot_fact⟩
abbrev dO:Stmt:=top 52
theorem jM:FnScope ["_law_loads_here","_law_names_here","_law_more"] ["_law_loads_here","_law_names_here"] (au dO):=by cell_call
abbrev ft:Stmt:=top 53
theorem kZ:FnScope ["_law_rows","_law_due","_law_at","_law_first","_law_handed"] ["_law_rows","_law_due","_law_at","_law_first"] (au ft):=by cell_call
abbrev la:Stmt:=top 54
theorem eu:FnScope ["_law_script","_law_names_here","_law_loads_here","_law_rows","_law_first","_law_seventh_here","_law_one","_law_drawn","_law_at","_law_spoilt","_law_due","_law_row"] ["_law_script"] (au la):=by cell_call
noncomputable def ia:SF:=
 (aE (aU 3 (mk [false,false,false,false] (oD (aa bB) (oD (aa i3) (oD (aa aA) (oD (aa aA) (oD (aa aA) (oD (aa bB) (vD 0) (vD 2)) (cD (.int 12345))) (oD (aa i3) (oD (aa i3) (cD (.int 31)) (vD 1)) (vD 1))) (vD 1)) (cD (.int 48271))) (vD 2))))
 (bq (oD (aa bz) (oD (aa bB) (oD (aa i3) (vD 3) (vD 3)) (cD (.int 998244353))) (cD (.int 3)))))
noncomputable def eI:List D→Option D:=aa (bG 4 ia)
abbrev gf(K:W.Frag):Sp:=spP K kNames .no 3 eI
abbrev Fa:List Bool:=[false,false,false,false,false,false,false,false,false]
abbrev Fb:List Bool:=[false,false,false,false,false,false,true,false,false]
abbrev Fc:List Bool:=[false,false,true,false,false,false,false,false,false,false]
abbrev Fd:List Bool:=[false,false,false,false,true,false,false,false,false]
abbrev Fe:List Bool:=[false,true,false,false,false,false]
abbrev Ff:List Bool:=[false,false,false,false,false,false]
abbrev Fg:List Bool:=[false,false,false,false,false]
abbrev Fh:List Bool:=[false,false,true,false,false,false]
abbrev Fi:List Bool:=[false,false,false,false,false,false,false,false,false,false,false]
abbrev Fj:List Bool:=[false,false,false,false,false,false,false]
abbrev Fk:List Bool:=[false,false,false,false,false,false,false,false,false,false,false,false]
noncomputable def dA:SF:=
 (aE (aU 1 (mk Fa (cD (.str (Str.ofString "abcdefghijklmnopqrstuvwxyz")))))
 (aE (aU 2 (mk Fa (ap eI (ae (vD 0) (ae (cD (.int 30)) (ae (cD (.int 1000003)) ao))))))
 (aE (aU 3 (mk Fa (oD (aa aA) (cD (.int 1)) (oD (aa bB) (vD 2) (cD (.int 12))))))
 (aE (aU 4 (mk Fa (oD (aa bB) (oD (aa bz) (vD 2) (cD (.int 12))) (vD 3))))
 (aE (aU 5 (mk Fa (oD (aa ixD) (vD 1) (oD (aa bB) (oD (aa bz) (vD 2) (cD (.int 150))) (cD (.int 26))))))
 (aE (ifS (bD (oD (aa eqD) (oD (aa bB) (oD (aa bz) (vD 2) (cD (.int 4000))) (cD (.int 3))) (cD (.int 0)))) (bq (de (iaD (aa jF) (ae (cD (.int 8)) ao)) gT (oD (aa i3) (vD 2) (oD (aa aA) (oD (aa aA) (vD 0) (cD (.int 1))) (oD (aa bB) (vD 1) (cD (.int 5))))) [2,5]))
 nxS)
 (aE (aU 6 (mk Fa (bF ao)))
 (aE (nA (mk Fb (iaD (aa jF) (ae (cD (.int 8)) ao))) (nmG 7)
 (aE (aU 8 (mk Fb (oD (aa ixD) (vD 1) (oD (aa bB) (oD (aa aA) (oD (aa bz) (vD 2) (cD (.int 12000))) (oD (aa i3) (cD (.int 3)) (vD 7))) (cD (.int 26))))))
 (j7 6 (mk Fb (oD (aa aA) (oD (aa aA) (oD (aa i3) (vD 5) (vD 4)) (vD 8)) (oD (aa i3) (vD 5) (oD (aa gH) (oD (aa gH) (vD 3) (cD (.int 1))) (vD 4))))))))
 (rD 6)))))))))
noncomputable def gJ:List D→Option D:=aa (fQ 9 dA)
abbrev jn(K:W.Frag):Sp:=spP K kNames .yes 1 gJ
noncomputable def gh:SF:=
 (aE (ifS (bD (oD (aa ltD) (vD 1) (ap (aa bR) (ae (vD 0) ao)))) (bq (oD (aa ixD) (vD 0) (vD 1)))
 nxS)
 (bq (cD (.int 0))))
noncomputable def cM:List D→Option D:=aa (bG 2 gh)
abbrev iH(K:W.Frag):Sp:=spP K kNames .no 2 cM
noncomputable abbrev lB1:SF:=(aE (aU 5 (mk Fc (ap eI (ae (vD 0) (ae (oD (aa aA) (cD (.int 80)) (vD 4)) (ae (cD (.int 1000003)) ao)))))) (aE (aU 6 (mk Fc (ap (aa rq) (ae (cD (.int 100)) (ae (oD (aa gH) (vD 3) (oD (aa gH) (oD (aa gH) (vD 1) (cD (.int 1))) (vD 4))) ao))))) (aE (aU 7 (mk Fc (oD (aa ixD) (bF (ae (cD (.int 1)) (ae (vD 6) (ae (oD (aa aA) (cD (.int 1)) (oD (aa bB) (oD (aa bz) (vD 5) (cD (.int 4))) (vD 6))) (ae (oD (aa aA) (cD (.int 1)) (oD (aa bB) (oD (aa bz) (vD 5) (cD (.int 4))) (ap (aa rq) (ae (vD 6) (ae (cD (.int 30)) ao))))) ao))))) (oD (aa bB) (vD 5) (cD (.int 4)))))) (aE (aU 8 (mk Fc (oD (aa ixD) (bF (ae (oD (aa bB) (oD (aa bz) (vD 5) (cD (.int 16))) (cD (.int 10))) (ae (oD (aa bB) (oD (aa bz) (vD 5) (cD (.int 16))) (cD (.int 1000))) (ae (cD (.int 1000000)) (ae (oD (aa bB) (oD (aa aA) (vD 0) (vD 5)) (cD (.int 1000001))) ao))))) (oD (aa bB) (oD (aa bz) (vD 5) (cD (.int 4))) (cD (.int 4)))))) (aE (aU 9 (mk Fc (oD (aa ixD) (bF (ae (vD 8) (ae (cD (.int 0)) (ae (oD (aa bB) (oD (aa bz) (vD 5) (cD (.int 64))) (oD (aa aA) (vD 8) (cD (.int 1)))) ao)))) (oD (aa bB) (oD (aa bz) (vD 5) (cD (.int 32))) (cD (.int 3)))))) (aE (j7 2 (mk Fc (cu (ae (vD 7) (ae (vD 9) (ae (vD 8) ao)))))) (ifS (bD (oD (aa gtD) (vD 4) (cD (.int 0)))) (aU 3 (mk Fc (oD (aa gH) (vD 3) (vD 7)))) nxS)))))))
noncomputable def eJ:SF:=
 (aE (aU 2 (mk [false,false,false,false,false,false,false,false,false,false] (bF ao)))
 (aE (aU 3 (mk Fc (cD (.int 200))))
 (aE (nA (mk Fc (iaD (aa jF) (ae (vD 1) ao))) (nmG 4)
 lB1)
 (rD 2))))
noncomputable def gY:List D→Option D:=aa (fQ 10 eJ)
abbrev iR(K:W.Frag):Sp:=spP K kNames .yes 2 gY
noncomputable abbrev lB2:SF:=(aE (aU 6 (mk Fd (oD (aa aA) (ap cM (ae (vD 0) (ae (oD (aa aA) (cD (.int 1)) (vD 5)) ao))) (oD (aa i3) (cD (.int 65537)) (vD 5))))) (aE (aU 7 (mk Fd (ap eI (ae (vD 6) (ae (cD (.int 111)) (ae (cD (.int 1000033)) ao)))))) (aE (aU 8 (mk Fd (oD (aa ixD) (bF (ae (cD (.int 1)) (ae (cD (.int 12)) (ae (oD (aa aA) (cD (.int 1)) (oD (aa bB) (oD (aa bz) (vD 7) (cD (.int 3))) (cD (.int 12)))) ao)))) (oD (aa bB) (vD 7) (cD (.int 3)))))) (j7 4 (mk Fd (cu (ae (oD (aa ixD) (vD 2) (vD 5)) (ae (vD 8) (ae (ap gY (ae (vD 6) (ae (oD (aa ixD) (bF (ae (cD (.int 1)) (ae (cD (.int 8)) (ae (oD (aa aA) (cD (.int 1)) (oD (aa bB) (oD (aa bz) (vD 7) (cD (.int 36))) (cD (.int 8)))) ao)))) (oD (aa bB) (oD (aa bz) (vD 7) (cD (.int 12))) (cD (.int 3)))) ao))) ao)))))))))
noncomputable def fu:SF:=
 (aE (aU 2 (mk Fa (ap gJ (ae (ap cM (ae (vD 0) (ae (cD (.int 0)) ao))) ao))))
 (aE (aU 3 (mk Fa (oD (aa bB) (ap eI (ae (ap cM (ae (vD 0) (ae (cD (.int 0)) ao))) (ae (cD (.int 110)) (ae (cD (.int 1000003)) ao)))) (oD (aa aA) (vD 1) (cD (.int 1))))))
 (aE (aU 4 (mk Fa (bF ao)))
 (aE (nA (mk Fd (iaD (aa jF) (ae (vD 3) ao))) (nmG 5)
 lB2)
 (bq (cu (ae (vD 2) (ae (vD 4) ao))))))))
noncomputable def gK:List D→Option D:=aa (bG 9 fu)
abbrev jo(K:W.Frag):Sp:=spP K kNames .no 2 gK
noncomputable abbrev lB3:SF:=(aE (j7 1 (mk Fe (oD (aa aA) (oD (aa aA) (oD (aa aA) (cD (.str (Str.ofString "load "))) (vD 2)) (cD (.str (Str.ofString " ")))) (ap (aa j8) (ae (vD 3) ao))))) (nA (mk Fe (itD (vD 4))) (nmG 5) (j7 1 (mk Fe (mtD (aa d8) (cD (.str (Str.ofString " "))) (ae (oD (aa aA) (bF (ae (cD (.str (Str.ofString "wheel"))) ao)) (de (itD (vD 5)) gT (ap (aa j8) (ae (vD 0) ao)) [])) ao))))))
noncomputable def cU:SF:=
 (aE (aU 1 (mk Ff (bF ao)))
 (aE (nA (mk Fe (itD (vD 0))) (sT [2,3,4])
 lB3)
 (rD 1)))
noncomputable def dJ:List D→Option D:=aa (fQ 6 cU)
abbrev eK(K:W.Frag):Sp:=spP K kNames .yes 1 dJ
noncomputable def dP:SF:=
 (aE (aU 2 (mk [false,false,false] (ap (aa nh) (ae (vD 0) ao))))
 (aE (whS (bD (oD (aa ltD) (ap (aa bR) (ae (vD 2) ao)) (cD (.int 6))))
 (vE 2 (cu (ae (flatV (oD (aa ixD) (vD 1) (ap (aa bR) (ae (vD 2) ao)))) (ae (flatV (cD (.int 3))) (ae (flsV (bF (ae (cu (ae (cD (.int 1)) (ae (cD (.int 0)) (ae (cD (.int 1)) ao)))) ao))) ao))))))
 (bq (oD (aa aA) (ap dJ (ae (vD 2) ao)) (bF (ae (oD (aa aA) (oD (aa aA) (cD (.str (Str.ofString "load "))) (oD (aa ixD) (vD 1) (cD (.int 7)))) (cD (.str (Str.ofString " 3")))) (ae (cD (.str (Str.ofString "wheel 1 0 0"))) ao)))))))
noncomputable def gy:List D→Option D:=aa (bG 3 dP)
abbrev ip(K:W.Frag):Sp:=spP K kNames .no 2 gy
noncomputable def ib:SF:=
 (bq (mtD (aa jH) (vD 0) (ae (cD (.str (Str.ofString "\n"))) ao)))
noncomputable def i6:List D→Option D:=aa (fQ 1 ib)
abbrev jp(K:W.Frag):Sp:=spP K kNames .yes 1 i6
noncomputable def dQ:SF:=
 (bq (sP (oD (aa gtD) (ap (aa bR) (ae (vD 0) ao)) (cD (.int 0))) (oD (aa lN) (oD (aa ixD) (vD 0) (cD (.int 0))) (vD 1))))
noncomputable def aQ:List D→Option D:=aa (bG 2 dQ)
abbrev cr(K:W.Frag):Sp:=spP K kNames .no 2 aQ
noncomputable def gi:SF:=
 (aE (ifS (bD (oD (aa geD) (vD 1) (ap (aa bR) (ae (vD 0) ao)))) (bq (bF ao))
 nxS)
 (bq (mtD (aa jH) (oD (aa ixD) (vD 0) (vD 1)) (ae (cD (.str (Str.ofString " "))) ao))))
noncomputable def aS:List D→Option D:=aa (fQ 2 gi)
abbrev fA(K:W.Frag):Sp:=spP K kNames .yes 2 aS
noncomputable def fB:SF:=
 (aE (ifS (orB (bD (oD (aa ltD) (ap (aa bR) (ae (vD 0) ao)) (cD (.int 1)))) (bD (oD (aa gtD) (ap (aa bR) (ae (vD 0) ao)) (vD 2)))) (bq (cD (.bl false)))
 nxS)
 (bq (ap (aa zx) (ae (de (itD (vD 0)) gT (oD (aa lN) (vD 0) (vD 1)) [1]) ao))))
noncomputable def gL:List D→Option D:=aa (bG 3 fB)
abbrev gZ(K:W.Frag):Sp:=spP K kNames .no 3 gL
noncomputable def fD:SF:=
 (aE (ifS (j6 (bD (ap gL (ae (vD 0) (ae (cD (.str (Str.ofString "0123456789"))) (ae (cD (.int 60)) ao)))))) (bq (cD .non))
 nxS)
 (aE (ifS (kK (bD (mtD (aa kR) (vD 0) (ae (cD (.str (Str.ofString "0"))) ao))) (bD (oD (aa neD) (vD 0) (cD (.str (Str.ofString "0")))))) (bq (cD .non))
 nxS)
 (aE (aU 2 (mk [false,false,false] (ap (aa jI) (ae (vD 0) ao))))
 (aE (ifS (kK (bD (oD (aa ul) (vD 1) (cD .non))) (bD (oD (aa gtD) (vD 2) (vD 1)))) (bq (cD .non))
 nxS)
 (bq (vD 2))))))
noncomputable def eA:List D→Option D:=aa (bG 3 fD)
abbrev fS(K:W.Frag):Sp:=spP K kNames .no 2 eA
noncomputable def cV:SF:=
 (aE (aU 2 (mk [false,false,false] (ap eA (ae (vD 0) (ae (oD (aa ixD) (vD 1) (cD (.int 1))) ao)))))
 (aE (ifS (orB (bD (oD (aa isD) (vD 2) (cD .non))) (bD (oD (aa ltD) (vD 2) (oD (aa ixD) (vD 1) (cD (.int 0)))))) (bq (cD .non))
 nxS)
 (bq (vD 2))))
noncomputable def bU:List D→Option D:=aa (bG 3 cV)
abbrev gj(K:W.Frag):Sp:=spP K kNames .no 2 bU
noncomputable def eM:SF:=
 (aE (ifS (bD (oD (aa neD) (ap (aa bR) (ae (vD 0) ao)) (ap (aa bR) (ae (vD 1) ao)))) (bq (cD .non))
 nxS)
 (aE (aU 2 (mk [false,false,false] (uw 2 (iaD (aa xE) (ae (vD 0) (ae (vD 1) ao))) gT (ap bU (ae (vD 0) (ae (vD 1) ao))) [])))
 (aE (ifS (bD (oD (aa lN) (cD .non) (vD 2))) (bq (cD .non))
 nxS)
 (bq (vD 2)))))
noncomputable def fT:List D→Option D:=aa (bG 3 eM)
abbrev gz(K:W.Frag):Sp:=spP K kNames .no 2 fT
noncomputable def ic:SF:=
 (bq (ap gL (ae (vD 0) (ae (cD (.str (Str.ofString "abcdefghijklmnopqrstuvwxyz"))) (ae (cD (.int 12)) ao)))))
noncomputable def j0:List D→Option D:=aa (bG 1 ic)
abbrev kB(K:W.Frag):Sp:=spP K kNames .no 1 j0
noncomputable def fE:SF:=
 (aE (ifS (orB (j6 (bD (ap aQ (ae (vD 0) (ae (cu (ae (vD 1) ao)) ao))))) (orB (bD (oD (aa ltD) (ap (aa bR) (ae (vD 0) ao)) (cD (.int 2)))) (j6 (bD (ap j0 (ae (oD (aa ixD) (vD 0) (cD (.int 1))) ao)))))) (bq (cD .non))
 nxS)
 (aE (aU 3 (mk [false,false,false,false] (ap fT (ae (slD (aa cO) (vD 0) (atO (cD (.int 2))) noO) (ae (vD 2) ao)))))
 (aE (ifS (bD (oD (aa isD) (vD 3) (cD .non))) (bq (cD .non))
 nxS)
 (bq (cu (ae (oD (aa ixD) (vD 0) (cD (.int 1))) (ae (vD 3) ao)))))))
noncomputable def eB:List D→Option D:=aa (bG 4 fE)
abbrev g0(K:W.Frag):Sp:=spP K kNames .no 3 eB
def bi(K:W.Frag):Sp:=fun vs H Q _=>∃(e C:Addr) (n:V),vs=[.ref e,n]∧H e=some (exH e C none)∧XCls K C∧NoAttr K C "row"∧
 ∀dx H',H dx=none→dx≠e→(∀b o,b≠e→H b=some o→H' b=some o)→H' e=some (exH e C (some dx))→H' dx=some (exF dx [("row",n)])→Q .non H'
noncomputable def fF:SF:=
 (aE (aU 3 (mk [false,false,false,false] (ap eB (ae (vD 0) (ae (cD (.str (Str.ofString "load"))) (ae (cu (ae (cD (.kt [.int 1, .int 12])) ao)) ao))))))
 (aE (ifS (orB (bD (oD (aa isD) (vD 3) (cD .non))) (bD (oD (aa geD) (ap (aa bR) (ae (vD 2) ao)) (cD (.int 6))))) nvS
 nxS)
 (aE (ifS (bD (oD (aa lN) (oD (aa ixD) (vD 3) (cD (.int 0))) (de (itD (vD 2)) gT (uD (aa (oM .name)) (vD 0)) []))) nvS
 nxS)
 (bq (vD 3)))))
noncomputable def cC:List D→Option D:=aa (bG 4 fF)
abbrev jq(K:W.Frag):Sp:=spP K kNames .no 3 cC
noncomputable def fG:XF:=
 (mq (aU 3 (mk [false,false,false,false] (ap eB (ae (vD 0) (ae (cD (.str (Str.ofString "load"))) (ae (cu (ae (cD (.kt [.int 1, .int 12])) ao)) ao))))))
 (nM (ifR (orB (bD (oD (aa isD) (vD 3) (cD .non))) (bD (oD (aa geD) (ap (aa bR) (ae (vD 2) ao)) (cD (.int 6))))) (fY ["BadRow","TextError","WayError"] (vD 1))
 noR) (ifS (orB (bD (oD (aa isD) (vD 3) (cD .non))) (bD (oD (aa geD) (ap (aa bR) (ae (vD 2) ao)) (cD (.int 6))))) nvS
 nxS)
 (ifR (bD (oD (aa lN) (oD (aa ixD) (vD 3) (cD (.int 0))) (de (itD (vD 2)) gT (uD (aa (oM .name)) (vD 0)) []))) (fY ["Twice","TextError","WayError"] (vD 1))
 noR)))
noncomputable def eC:List D→Option Ex:=aa (j9 4 fG)
abbrev lb(K:W.Frag):Sp:=spB K kNames .no 3 cC eC
noncomputable def fH:SF:=
 (aE (ifS (j6 (bD (ap aQ (ae (vD 0) (ae (cu (ae (vD 1) ao)) ao))))) (bq (cD .non))
 nxS)
 (bq (ap fT (ae (slD (aa cO) (vD 0) (atO (cD (.int 1))) noO) (ae (vD 2) ao)))))
noncomputable def eD:List D→Option D:=aa (bG 3 fH)
abbrev g6(K:W.Frag):Sp:=spP K kNames .no 3 eD
noncomputable def ie:SF:=
 (bq (ap (aa qa) (ae (de (itD (slD (aa cO) (vD 0) (atO (cD (.int 1))) noO)) gT (oD (aa ixD) (vD 0) (cD (.int 0))) []) ao)))
noncomputable def gn:List D→Option D:=aa (bG 1 ie)
abbrev js(K:W.Frag):Sp:=spP K kNames .no 1 gn
noncomputable def eN:SF:=
 (aE (aU 3 (mk Fg (ap eD (ae (vD 0) (ae (cD (.str (Str.ofString "wheel"))) (ae (cu (ae (cD (.kt [.int 1, .int 100])) (ae (cD (.kt [.int 0, .int 1000000])) (ae (cD (.kt [.int 0, .int 1000000])) ao)))) ao))))))
 (aE (ifS (orB (bD (oD (aa isD) (vD 3) (cD .non))) (orB (bD (oD (aa gtD) (oD (aa ixD) (vD 3) (cD (.int 1))) (oD (aa ixD) (vD 3) (cD (.int 2))))) (bD (oD (aa geD) (ap (aa bR) (ae (vD 2) ao)) (cD (.int 8)))))) nvS
 nxS)
 (aE (aU 4 (mk Fg (ap (aa nj) (ae (vD 3) ao))))
 (aE (ifS (bD (oD (aa gtD) (ap gn (ae (oD (aa aA) (vD 2) (bF (ae (vD 4) ao))) ao)) (cD (.int 200)))) nvS
 nxS)
 (bq (vD 4))))))
noncomputable def cB:List D→Option D:=aa (bG 5 eN)
abbrev iT(K:W.Frag):Sp:=spP K kNames .no 3 cB
noncomputable def eO:XF:=
 (mq (aU 3 (mk Fg (ap eD (ae (vD 0) (ae (cD (.str (Str.ofString "wheel"))) (ae (cu (ae (cD (.kt [.int 1, .int 100])) (ae (cD (.kt [.int 0, .int 1000000])) (ae (cD (.kt [.int 0, .int 1000000])) ao)))) ao))))))
 (nM (ifR (orB (bD (oD (aa isD) (vD 3) (cD .non))) (orB (bD (oD (aa gtD) (oD (aa ixD) (vD 3) (cD (.int 1))) (oD (aa ixD) (vD 3) (cD (.int 2))))) (bD (oD (aa geD) (ap (aa bR) (ae (vD 2) ao)) (cD (.int 8)))))) (fY ["BadRow","TextError","WayError"] (vD 1))
 noR) (ifS (orB (bD (oD (aa isD) (vD 3) (cD .non))) (orB (bD (oD (aa gtD) (oD (aa ixD) (vD 3) (cD (.int 1))) (oD (aa ixD) (vD 3) (cD (.int 2))))) (bD (oD (aa geD) (ap (aa bR) (ae (vD 2) ao)) (cD (.int 8)))))) nvS
 nxS)
 (mq (aU 4 (mk Fg (ap (aa nj) (ae (vD 3) ao))))
 (ifR (bD (oD (aa gtD) (ap gn (ae (oD (aa aA) (vD 2) (bF (ae (vD 4) ao))) ao)) (cD (.int 200)))) (fY ["TooLong","TextError","WayError"] (vD 1))
 noR))))
noncomputable def eP:List D→Option Ex:=aa (j9 5 eO)
abbrev kg(K:W.Frag):Sp:=spB K kNames .no 3 cB eP
noncomputable def dR:SF:=
 (aE (aU 3 (mk [false,false,false,false] (bF ao)))
 (aE (whS (orB (j6 (trD (vD 3))) (bD (ap aQ (ae (ap aS (ae (vD 0) (ae (vD 1) ao))) (ae (cu (ae (cD (.str (Str.ofString "wheel"))) ao)) ao)))))
 (aE (oO 3 (ap cB (ae (ap aS (ae (vD 0) (ae (vD 1) ao))) (ae (oD (aa aA) (vD 2) (vD 1)) (ae (vD 3) ao)))))
 (aU 1 (mk [false,false,false,true] (oD (aa aA) (vD 1) (cD (.int 1)))))))
 (rD 3)))
noncomputable def cE:List D→Option D:=aa (fQ 4 dR)
abbrev iq(K:W.Frag):Sp:=spP K kNames .yes 3 cE
noncomputable def dS:XF:=
 (mq (aU 3 (mk [false,false,false,false] (bF ao)))
 (whX (orB (j6 (trD (vD 3))) (bD (ap aQ (ae (ap aS (ae (vD 0) (ae (vD 1) ao))) (ae (cu (ae (cD (.str (Str.ofString "wheel"))) ao)) ao))))) (zW 3 (i4 eP (ae (ap aS (ae (vD 0) (ae (vD 1) ao))) (ae (oD (aa aA) (vD 2) (vD 1)) (ae (vD 3) ao)))))
 (aE (oO 3 (ap cB (ae (ap aS (ae (vD 0) (ae (vD 1) ao))) (ae (oD (aa aA) (vD 2) (vD 1)) (ae (vD 3) ao)))))
 (aU 1 (mk [false,false,false,true] (oD (aa aA) (vD 1) (cD (.int 1))))))))
noncomputable def bZ:List D→Option Ex:=aa (j9 4 dS)
abbrev jN(K:W.Frag):Sp:=spB K kNames .yes 3 cE bZ
noncomputable def lO:List D→Option (List (Fl×D)):=AO [(.name,(vD 1)),(.speed,(vD 2)),(.wheels,(ap (aa nh) (ae (vD 3) ao)))]
abbrev g9(K:W.Frag):Sp:=spI K kNames .Cart 3 lO
noncomputable def hG:SF:=
 (aE (aU 2 (mk Ff (bF ao)))
 (aE (aU 3 (mk Fh (cD (.int 0))))
 (aE (whS (bD (ap aQ (ae (ap aS (ae (vD 0) (ae (vD 3) ao))) (ae (cu (ae (cD (.str (Str.ofString "load"))) (ae (cD (.str (Str.ofString "wheel"))) ao))) ao))))
 (aE (rG Fh 4 (ap cC (ae (ap aS (ae (vD 0) (ae (vD 3) ao))) (ae (oD (aa aA) (vD 1) (vD 3)) (ae (vD 2) ao)))))
 (aE (aU 5 (mk Fh (ap cE (ae (vD 0) (ae (oD (aa aA) (vD 3) (cD (.int 1))) (ae (vD 1) ao))))))
 (aE (j7 2 (mk Fh (pA .Cart lO (ae (oD (aa ixD) (vD 4) (cD (.int 0))) (ae (oD (aa ixD) (oD (aa ixD) (vD 4) (cD (.int 1))) (cD (.int 0))) (ae (vD 5) ao))))))
 (aU 3 (mk Fh (oD (aa aA) (oD (aa aA) (vD 3) (cD (.int 1))) (ap (aa bR) (ae (vD 5) ao)))))))))
 (B9 Fh 2 (vD 3)))))
noncomputable def hI:List D→Option D:=aa (fQ 6 hG)
abbrev iU(K:W.Frag):Sp:=spP K kNames .pr 2 hI
noncomputable def eQ:XF:=
 (mq (aU 2 (mk Ff (bF ao)))
 (mq (aU 3 (mk Fh (cD (.int 0))))
 (whX (bD (ap aQ (ae (ap aS (ae (vD 0) (ae (vD 3) ao))) (ae (cu (ae (cD (.str (Str.ofString "load"))) (ae (cD (.str (Str.ofString "wheel"))) ao))) ao)))) (nM (i4 eC (ae (ap aS (ae (vD 0) (ae (vD 3) ao))) (ae (oD (aa aA) (vD 1) (vD 3)) (ae (vD 2) ao)))) (rG Fh 4 (ap cC (ae (ap aS (ae (vD 0) (ae (vD 3) ao))) (ae (oD (aa aA) (vD 1) (vD 3)) (ae (vD 2) ao)))))
 (i4 bZ (ae (vD 0) (ae (oD (aa aA) (vD 3) (cD (.int 1))) (ae (vD 1) ao)))))
 (aE (rG Fh 4 (ap cC (ae (ap aS (ae (vD 0) (ae (vD 3) ao))) (ae (oD (aa aA) (vD 1) (vD 3)) (ae (vD 2) ao)))))
 (aE (aU 5 (mk Fh (ap cE (ae (vD 0) (ae (oD (aa aA) (vD 3) (cD (.int 1))) (ae (vD 1) ao))))))
 (aE (j7 2 (mk Fh (pA .Cart lO (ae (oD (aa ixD) (vD 4) (cD (.int 0))) (ae (oD (aa ixD) (oD (aa ixD) (vD 4) (cD (.int 1))) (cD (.int 0))) (ae (vD 5) ao))))))
 (aU 3 (mk Fh (oD (aa aA) (oD (aa aA) (vD 3) (cD (.int 1))) (ap (aa bR) (ae (vD 5) ao)))))))))))
noncomputable def cb:List D→Option Ex:=aa (j9 6 eQ)
abbrev iV(K:W.Frag):Sp:=spB K kNames .pr 2 hI cb
noncomputable def jt:SF:=
 (aE (ifS (bD (oD (aa eqD) (vD 0) (cD (.str (Str.ofString ""))))) (bq (bF ao))
 nxS)
 (aE (aU 1 (mk [false,false,false] (ap i6 (ae (vD 0) ao))))
 (aE (aU 2 (mk [false,false,false] (ap hI (ae (vD 1) (ae (cD (.int 1)) ao)))))
 (aE (ifS (bD (oD (aa ltD) (oD (aa ixD) (vD 2) (cD (.int 1))) (ap (aa bR) (ae (vD 1) ao)))) nvS
 nxS)
 (bq (oD (aa ixD) (vD 2) (cD (.int 0))))))))
noncomputable def nX:List D→Option D:=aa (bG 3 jt)
abbrev mh(K:W.Frag):Sp:=spP K kNames .no 1 nX
noncomputable def gp:XF:=
 (mq (ifS (bD (oD (aa eqD) (vD 0) (cD (.str (Str.ofString ""))))) (bq (bF ao))
 nxS)
 (mq (aU 1 (mk [false,false,false] (ap i6 (ae (vD 0) ao))))
 (nM (i4 cb (ae (vD 1) (ae (cD (.int 1)) ao))) (aU 2 (mk [false,false,false] (ap hI (ae (vD 1) (ae (cD (.int 1)) ao)))))
 (ifR (bD (oD (aa ltD) (oD (aa ixD) (vD 2) (cD (.int 1))) (ap (aa bR) (ae (vD 1) ao)))) (fY ["BadRow","TextError","WayError"] (oD (aa aA) (oD (aa ixD) (vD 2) (cD (.int 1))) (cD (.int 1))))
 noR))))
noncomputable def ir:List D→Option Ex:=aa (j9 3 gp)
abbrev mj(K:W.Frag):Sp:=spB K kNames .no 1 nX ir
noncomputable def eR:SF:=
 (bq (sP (ap (aa (isT "int")) (ae (vD 0) ao)) (w4 (ap (aa (isT "bool")) (ae (vD 0) ao)))))
noncomputable def ju:List D→Option D:=aa (bG 1 eR)
abbrev gA(K:W.Frag):Sp:=spP K kNames .no 1 ju
def dB:List Str:=["BadRow","TextError","WayError"]
def jO(ms:List Str):Option Str:=if ms=dB then some (Str.ofString "bad") else if ms=(["Twice","TextError","WayError"]:List Str) then some (Str.ofString "twice") else if ms=(["TooLong","TextError","WayError"]:List Str) then some (Str.ofString "long") else none
def tD(x:Ex):Option D:=(jO x.ms).bind fun k=>(match x.fs with|[(n, .int r)]=>if n="row" then some (.tup [.str k, .int r]) else none|_=>none)
noncomputable def cF:List D→Option D:=aa fun
 |[.lst rs, .int n]=>if n=0 then(aa d8 (.str (Str.ofString "\n")) [.lst rs]).bind fun t=>(ir [t]).bind tD else(cb [.lst rs, .int n]).bind tD
 |_=>none
abbrev iu(K:W.Frag):Sp:=spP K kNames .no 2 cF
noncomputable def fJ:SF:=
 (aE (aU 4 (mk Fg (ap (aa nh) (ae (vD 0) ao))))
 (aE (ifS (orB (bD (oD (aa neD) (ap cF (ae (vD 4) (ae (cD (.int 0)) ao))) (cu (ae (vD 1) (ae (oD (aa aA) (vD 2) (cD (.int 1))) ao))))) (bD (oD (aa neD) (ap cF (ae (vD 4) (ae (vD 3) ao))) (cu (ae (vD 1) (ae (oD (aa aA) (vD 2) (vD 3)) ao)))))) (bq (cD (.bl false)))
 nxS)
 (bq (oD (aa eqD) (vD 4) (vD 0)))))
noncomputable def db:List D→Option D:=aa (bG 5 fJ)
abbrev jv(K:W.Frag):Sp:=spP K kNames .no 4 db
noncomputable def fK:SF:=
 (aE (aU 4 (mk Fi (oD (aa bB) (vD 3) (cD (.int 8)))))
 (aE (aU 5 (mk Fi (oD (aa bz) (vD 3) (cD (.int 8)))))
 (aE (aU 6 (mk Fi (oD (aa bB) (vD 5) (ap (aa bR) (ae (vD 1) ao)))))
 (aE (aU 7 (mk Fi (ap (aa qa) (ae (de (itD (slD (aa cO) (vD 1) noO (atO (vD 6)))) gT (oD (aa aA) (cD (.int 1)) (ap (aa bR) (ae (oD (aa ixD) (vD 0) (cD (.int 2))) ao))) []) ao))))
 (aE (aU 8 (mk Fi (oD (aa aA) (oD (aa aA) (vD 7) (cD (.int 1))) (ap (aa bR) (ae (oD (aa ixD) (oD (aa ixD) (vD 1) (vD 6)) (cD (.int 2))) ao)))))
 (aE (ifS (bD (oD (aa eqD) (vD 4) (cD (.int 0)))) (bq (cu (ae (cD (.int 0)) (ae (oD (aa ixD) (bF (ae (cD (.str (Str.ofString "wheel 1 2 3"))) (ae (cD (.str (Str.ofString "wheel"))) (ae (cD (.str (Str.ofString "wheel 0 1 1"))) ao)))) (oD (aa bB) (oD (aa bz) (vD 5) (cD (.int 7))) (cD (.int 3)))) (ae (cD (.str (Str.ofString "bad"))) ao)))))
 nxS)
 (aE (ifS (bD (oD (aa eqD) (vD 4) (cD (.int 1)))) (aE (ifS (bD (oD (aa eqD) (ap (aa bR) (ae (oD (aa ixD) (oD (aa ixD) (vD 1) (vD 6)) (cD (.int 2))) ao)) (cD (.int 8)))) (bq (cu (ae (oD (aa aA) (vD 7) (cD (.int 9))) (ae (oD (aa ixD) (bF (ae (cD (.str (Str.ofString "wheel 1 0 0"))) (ae (cD (.str (Str.ofString "wheel 1 0 0 0"))) ao))) (oD (aa bB) (oD (aa bz) (vD 5) (cD (.int 7))) (cD (.int 2)))) (ae (cD (.str (Str.ofString "bad"))) ao)))))
 nxS)
 (bq (cu (ae (oD (aa aA) (vD 7) (cD (.int 1))) (ae (oD (aa aA) (oD (aa aA) (cD (.str (Str.ofString "load "))) (oD (aa ixD) (vD 2) (cD (.int 7)))) (cD (.str (Str.ofString " 3")))) (ae (cD (.str (Str.ofString "bad"))) ao))))))
 nxS)
 (aE (ifS (bD (oD (aa eqD) (vD 4) (cD (.int 2)))) (bq (cu (ae (oD (aa aA) (vD 7) (cD (.int 1))) (ae (oD (aa ixD) (bF (ae (cD (.str (Str.ofString ""))) (ae (oD (aa aA) (oD (aa aA) (cD (.str (Str.ofString "load "))) (oD (aa ixD) (oD (aa ixD) (vD 1) (vD 6)) (cD (.int 0)))) (cD (.str (Str.ofString " 3")))) (ae (cD (.str (Str.ofString "loads"))) (ae (cD (.str (Str.ofString "send x 3"))) ao))))) (oD (aa bB) (oD (aa bz) (vD 5) (cD (.int 7))) (cD (.int 4)))) (ae (cD (.str (Str.ofString "bad"))) ao)))))
 nxS)
 (aE (ifS (kK (bD (oD (aa eqD) (vD 4) (cD (.int 3)))) (bD (oD (aa ltD) (ap (aa bR) (ae (oD (aa ixD) (oD (aa ixD) (vD 1) (vD 6)) (cD (.int 2))) ao)) (cD (.int 8))))) (aE (aU 9 (mk Fi (ap (aa qa) (ae (de (itD (slD (aa cO) (oD (aa ixD) (oD (aa ixD) (vD 1) (vD 6)) (cD (.int 2))) (atO (cD (.int 1))) noO)) gT (oD (aa ixD) (vD 0) (cD (.int 0))) []) ao))))
 (aE (ifS (bD (oD (aa gtD) (vD 9) (cD (.int 100)))) (bq (cu (ae (vD 8) (ae (oD (aa aA) (oD (aa aA) (cD (.str (Str.ofString "wheel "))) (oD (aa ixD) (bF (ae (ap (aa j8) (ae (oD (aa gH) (cD (.int 201)) (vD 9)) ao)) (ae (cD (.str (Str.ofString "100"))) ao))) (oD (aa bB) (oD (aa bz) (vD 5) (cD (.int 7))) (cD (.int 2))))) (cD (.str (Str.ofString " 0 0")))) (ae (cD (.str (Str.ofString "long"))) ao)))))
 nxS)
 (bq (cu (ae (vD 8) (ae (cD (.str (Str.ofString "wheel 101 0 0"))) (ae (cD (.str (Str.ofString "bad"))) ao)))))))
 nxS)
 (aE (aU 10 (mk Fi (oD (aa ixD) (bF (ae (oD (aa aA) (oD (aa aA) (cD (.str (Str.ofString "load "))) (oD (aa ixD) (oD (aa ixD) (vD 1) (vD 6)) (cD (.int 0)))) (cD (.str (Str.ofString " 12")))) (ae (oD (aa aA) (oD (aa aA) (cD (.str (Str.ofString "load "))) (oD (aa ixD) (oD (aa ixD) (vD 1) (vD 6)) (cD (.int 0)))) (cD (.str (Str.ofString " 13")))) (ae (oD (aa aA) (cD (.str (Str.ofString "load "))) (oD (aa ixD) (oD (aa ixD) (vD 1) (vD 6)) (cD (.int 0)))) ao)))) (oD (aa bB) (oD (aa bz) (vD 5) (cD (.int 7))) (cD (.int 3))))))
 (aE (ifS (bD (oD (aa eqD) (vD 6) (cD (.int 5)))) (bq (cu (ae (vD 8) (ae (vD 10) (ae (cD (.str (Str.ofString "bad"))) ao)))))
 nxS)
 (bq (cu (ae (vD 8) (ae (vD 10) (ae (oD (aa ixD) (bF (ae (cD (.str (Str.ofString "twice"))) (ae (cD (.str (Str.ofString "bad"))) (ae (cD (.str (Str.ofString "bad"))) ao)))) (oD (aa bB) (oD (aa bz) (vD 5) (cD (.int 7))) (cD (.int 3)))) ao))))))))))))))))
noncomputable def iI:List D→Option D:=aa (bG 11 fK)
abbrev jw(K:W.Frag):Sp:=spP K kNames .no 4 iI
noncomputable def cJ:SF:=
 (aE (aU 3 (mk [false,false,false,false] (bF (ae (oD (aa aA) (cD (.str (Str.ofString "0"))) (ap (aa j8) (ae (vD 2) ao))) (ae (cD (.str (Str.ofString "-1"))) (ae (cD (.str (Str.ofString ""))) (ae (cD (.str (Str.ofString "x"))) (ae (cD (.str (Str.ofString "1.0"))) (ae (oD (aa aA) (ap (aa j8) (ae (vD 2) ao)) (cD (.str (Str.ofString "0")))) (ae (oD (aa i3) (cD (.str (Str.ofString "9"))) (cD (.int 61))) (ae (cD (.str (Str.ofString "+1"))) (ae (ap (aa j8) (ae (oD (aa aA) (vD 2) (cD (.int 1))) ao)) (ae (ap (aa j8) (ae (oD (aa aA) (vD 2) (cD (.int 7))) ao)) ao)))))))))))))
 (aE (ifS (bD (oD (aa gtD) (vD 1) (cD (.int 0)))) (aU 3 (mk [false,false,false,false] (oD (aa aA) (vD 3) (bF (ae (ap (aa j8) (ae (oD (aa gH) (vD 1) (cD (.int 1))) ao)) (ae (cD (.str (Str.ofString "00"))) ao))))))
 nxS)
 (bq (oD (aa ixD) (vD 3) (oD (aa bB) (vD 0) (ap (aa bR) (ae (vD 3) ao)))))))
noncomputable def bn:List D→Option D:=aa (bG 4 cJ)
abbrev fU(K:W.Frag):Sp:=spP K kNames .no 3 bn
noncomputable def gq:SF:=
 (aE (aU 2 (mk Fj (mtD (aa jH) (vD 0) (ae (cD (.str (Str.ofString " "))) ao))))
 (aE (aU 3 (mk Fj (oD (aa bz) (vD 1) (cD (.int 8)))))
 (aE (ifS (bD (oD (aa eqD) (oD (aa bB) (vD 1) (cD (.int 8))) (cD (.int 0)))) (aE (aU 4 (mk Fj (oD (aa aA) (oD (aa aA) (mtD (aa d8) (cD (.str (Str.ofString " "))) (ae (slD (aa cO) (vD 2) noO (atO (oD (aa gH) (ap (aa bR) (ae (vD 2) ao)) (cD (.int 1))))) ao)) (cD (.str (Str.ofString "\t")))) (oD (aa ixD) (vD 2) (oD (aa gH) (ap (aa bR) (ae (vD 2) ao)) (cD (.int 1)))))))
 (bq (oD (aa ixD) (bF (ae (oD (aa aA) (vD 0) (cD (.str (Str.ofString " 1")))) (ae (oD (aa aA) (vD 0) (cD (.str (Str.ofString " x")))) (ae (oD (aa aA) (vD 0) (cD (.str (Str.ofString " ")))) (ae (oD (aa aA) (vD 0) (cD (.str (Str.ofString "\t")))) (ae (vD 4) ao)))))) (oD (aa bB) (vD 3) (cD (.int 5))))))
 nxS)
 (aE (ifS (bD (oD (aa eqD) (oD (aa bB) (vD 1) (cD (.int 8))) (cD (.int 1)))) (bq (mtD (aa d8) (cD (.str (Str.ofString " "))) (ae (slD (aa cO) (vD 2) noO (atO (oD (aa gH) (ap (aa bR) (ae (vD 2) ao)) (cD (.int 1))))) ao)))
 nxS)
 (aE (ifS (bD (oD (aa eqD) (oD (aa bB) (vD 1) (cD (.int 8))) (cD (.int 2)))) (bq (oD (aa aA) (oD (aa aA) (oD (aa ixD) (vD 2) (cD (.int 0))) (cD (.str (Str.ofString "  ")))) (mtD (aa d8) (cD (.str (Str.ofString " "))) (ae (slD (aa cO) (vD 2) (atO (cD (.int 1))) noO) ao))))
 nxS)
 (aE (ifS (kK (bD (oD (aa eqD) (oD (aa ixD) (vD 2) (cD (.int 0))) (cD (.str (Str.ofString "wheel"))))) (bD (oD (aa eqD) (oD (aa bB) (vD 1) (cD (.int 8))) (cD (.int 3))))) (bq (oD (aa aA) (mtD (aa d8) (cD (.str (Str.ofString " "))) (ae (slD (aa cO) (vD 2) noO (atO (cD (.int 2)))) ao)) (oD (aa ixD) (bF (ae (cD (.str (Str.ofString " 5 4"))) (ae (cD (.str (Str.ofString " 1000000 0"))) (ae (cD (.str (Str.ofString " 1 0"))) ao)))) (oD (aa bB) (vD 3) (cD (.int 3))))))
 nxS)
 (aE (aU 5 (mk Fj (oD (aa aA) (cD (.int 1)) (oD (aa bB) (vD 3) (oD (aa gH) (ap (aa bR) (ae (vD 2) ao)) (cD (.int 1)))))))
 (aE (aU 6 (mk Fj (oD (aa ixD) (bF (ae (cD (.str (Str.ofString "A"))) (ae (cD (.str (Str.ofString "abcdefghijklm"))) (ae (cD (.str (Str.ofString ""))) (ae (cD (.str (Str.ofString "a1"))) (ae (cD (.str (Str.ofString "a-b"))) (ae (cD (.str (Str.ofString "1"))) (ae (cD (.str (Str.ofString "zz_"))) ao)))))))) (oD (aa bB) (oD (aa bz) (vD 3) (cD (.int 7))) (cD (.int 7))))))
 (aE (ifS (kK (bD (oD (aa eqD) (oD (aa ixD) (vD 2) (cD (.int 0))) (cD (.str (Str.ofString "load"))))) (bD (oD (aa eqD) (vD 5) (cD (.int 2))))) (aU 6 (mk Fj (ap bn (ae (oD (aa bz) (vD 3) (cD (.int 7))) (ae (cD (.int 1)) (ae (cD (.int 12)) ao))))))
 nxS)
 (aE (ifS (bD (oD (aa eqD) (oD (aa ixD) (vD 2) (cD (.int 0))) (cD (.str (Str.ofString "wheel"))))) (aU 6 (mk Fj (ap bn (ae (oD (aa bz) (vD 3) (cD (.int 7))) (ae (ap (aa jI) (ae (oD (aa eqD) (vD 5) (cD (.int 1))) ao)) (ae (oD (aa ixD) (bF (ae (cD (.int 100)) (ae (cD (.int 1000000)) (ae (cD (.int 1000000)) ao)))) (oD (aa gH) (vD 5) (cD (.int 1)))) ao))))))
 nxS)
 (bq (mtD (aa d8) (cD (.str (Str.ofString " "))) (ae (oD (aa aA) (oD (aa aA) (slD (aa cO) (vD 2) noO (atO (vD 5))) (bF (ae (vD 6) ao))) (slD (aa cO) (vD 2) (atO (oD (aa aA) (vD 5) (cD (.int 1)))) noO)) ao)))))))))))))
noncomputable def gr:List D→Option D:=aa (bG 7 gq)
abbrev jQ(K:W.Frag):Sp:=spP K kNames .no 2 gr
noncomputable abbrev lB0:SF:=(aE (aU 7 (mk Fk (ap eI (ae (vD 6) (ae (cD (.int 113)) (ae (cD (.int 1000039)) ao)))))) (aE (aU 8 (mk Fk (oD (aa bB) (oD (aa bz) (vD 7) (cD (.int 2))) (ap (aa bR) (ae (vD 3) ao))))) (aE (aU 9 (mk Fk (oD (aa aA) (oD (aa aA) (slD (aa cO) (vD 3) noO (atO (vD 8))) (bF (ae (ap gr (ae (oD (aa ixD) (vD 3) (vD 8)) (ae (oD (aa bz) (vD 7) (cD (.int 400))) ao))) ao))) (slD (aa cO) (vD 3) (atO (oD (aa aA) (vD 8) (cD (.int 1)))) noO)))) (aE (aU 10 (mk Fk (cD (.str (Str.ofString "bad"))))) (aE (ifS (bD (oD (aa eqD) (oD (aa bB) (vD 7) (cD (.int 2))) (cD (.int 1)))) (aE (vy (mk Fk (ap iI (ae (vD 3) (ae (vD 2) (ae (vD 1) (ae (oD (aa bz) (vD 7) (cD (.int 2))) ao)))))) (sT [8,11,10])) (aU 9 (mk Fk (oD (aa aA) (oD (aa aA) (slD (aa cO) (vD 3) noO (atO (vD 8))) (bF (ae (vD 11) ao))) (slD (aa cO) (vD 3) (atO (vD 8)) noO))))) nxS) (aE (ifS (bD (oD (aa eqD) (oD (aa bB) (vD 6) (cD (.int 2))) (cD (.int 0)))) (aU 9 (mk Fk (oD (aa aA) (vD 9) (bF (ae (oD (aa ixD) (bF (ae (cD (.str (Str.ofString "wheel 0 1 1"))) (ae (cD (.str (Str.ofString "load"))) (ae (oD (aa aA) (oD (aa aA) (cD (.str (Str.ofString "load "))) (oD (aa ixD) (oD (aa ixD) (vD 2) (cD (.int 0))) (cD (.int 0)))) (cD (.str (Str.ofString " 5")))) ao)))) (oD (aa bB) (oD (aa bz) (vD 6) (cD (.int 2))) (cD (.int 3)))) ao))))) nxS) (ifS (j6 (bD (ap db (ae (vD 9) (ae (vD 10) (ae (vD 8) (ae (vD 4) ao))))))) (bq (cD (.bl false))) nxS)))))))
noncomputable def uB:SF:=
 (aE (vy (mk Fk (ap gK (ae (vD 0) (ae (cD (.int 6)) ao)))) (sT [1,2]))
 (aE (ifS (bD (oD (aa eqD) (vD 2) (bF ao))) (aU 2 (mk Fk (bF (ae (cu (ae (oD (aa ixD) (vD 1) (cD (.int 0))) (ae (cD (.int 5)) (ae (bF (ae (cu (ae (cD (.int 1)) (ae (cD (.int 2)) (ae (cD (.int 3)) ao)))) (ae (cu (ae (cD (.int 100)) (ae (cD (.int 0)) (ae (cD (.int 9)) ao)))) (ae (cu (ae (cD (.int 100)) (ae (cD (.int 1)) (ae (cD (.int 1)) ao)))) ao)))) ao)))) ao))))
 nxS)
 (aE (aU 3 (mk Fk (ap dJ (ae (vD 2) ao))))
 (aE (aU 4 (mk Fk (oD (aa aA) (cD (.int 1)) (oD (aa bB) (ap cM (ae (vD 0) (ae (cD (.int 7)) ao))) (cD (.int 1000))))))
 (aE (aU 5 (mk Fk (ap gy (ae (vD 2) (ae (vD 1) ao)))))
 (aE (ifS (j6 (bD (ap db (ae (vD 5) (ae (cD (.str (Str.ofString "bad"))) (ae (oD (aa gH) (ap (aa bR) (ae (vD 5) ao)) (cD (.int 2))) (ae (vD 4) ao))))))) (bq (cD (.bl false)))
 nxS)
 (aE (ifS (j6 (bD (ap db (ae (oD (aa aA) (vD 3) (bF (ae (oD (aa aA) (oD (aa aA) (cD (.str (Str.ofString "load "))) (oD (aa ixD) (vD 1) (cD (.int 7)))) (cD (.str (Str.ofString " 3")))) ao))) (ae (cD (.str (Str.ofString "bad"))) (ae (oD (aa aA) (ap (aa bR) (ae (vD 3) ao)) (ap (aa jI) (ae (oD (aa ltD) (ap (aa bR) (ae (vD 2) ao)) (cD (.int 6))) ao))) (ae (vD 4) ao))))))) (bq (cD (.bl false)))
 nxS)
 (aE (nA (mk Fk (itD (oD (aa aA) (bF (ae (oD (aa aA) (ap cM (ae (vD 0) (ae (cD (.int 8)) ao))) (ap (aa bR) (ae (vD 0) ao))) ao)) (slD (aa cO) (vD 0) (atO (cD (.int 8))) (atO (cD (.int 24))))))) (nmG 6)
 lB0)
 (bq (cD (.bl true)))))))))))
noncomputable def uC:List D→Option D:=aa (bG 12 uB)
theorem qx:bootBuiltins "ValueError"=some (.type "ValueError"):=by boot_fact
theorem rQ{K:W.Frag}{ns ms:List Str}{C:Addr}(d:XKd K ns C ms ["row"]):AW (bi K) C:=by
 intro n H R E e he k
 refine⟨e,C,n,rfl,aI,d.is.cls,d.na _ (by simp),fun dx H' hd ne sm h1 h2=>⟨rfl,k H' dx _ (fun b o eb=> ?_) h1 h2 rfl⟩⟩
 have hb:=aG eb he
 exact sm b o hb (by rw[aJ hb];exact eb)
open PD
theorem uE{i j:Int}(h:(-18446744073709551616<i∧i<18446744073709551616)∨(-18446744073709551616<j∧j<18446744073709551616)):aa i3 (.int i) (.int j)=some (.int (i*j)):=by rw[am];exact if_pos h
theorem qy{i j:Int}(h:0<j):aa bB (.int i) (.int j)=some (.int (i%j)):=by rw[am];exact if_pos h
theorem rR{i j:Int}(h:0<j∧j<1073741824):aa bz (.int i) (.int j)=some (.int (i/j)):=by rw[am];exact if_pos h
theorem rS{i j:Int}(h:0<j∧j<18446744073709551616):aa DG (.int i) (.int j)=some (.int (i/j)):=by rw[am];exact if_pos h
theorem uF{i j:Int}:aa aA (.int i) (.int j)=some (.int (i+j)):=by rw[am];exact rfl
theorem uG{i j:Int}:aa gH (.int i) (.int j)=some (.int (i-j)):=by rw[am];exact rfl
theorem xQ{i j:Int}:aa ltD (.int i) (.int j)=some (.bl (decide (i<j))):=by rw[am];exact rfl
theorem xR{i j:Int}:aa leD (.int i) (.int j)=some (.bl (decide (i≤j))):=by rw[am];exact rfl
theorem xS{i j:Int}:aa gtD (.int i) (.int j)=some (.bl (decide (j<i))):=by rw[am];exact rfl
theorem Co{i j:Int}:aa geD (.int i) (.int j)=some (.bl (decide (j≤i))):=by rw[am];exact rfl
theorem xT{i j:Int}:aa eqD (.int i) (.int j)=some (.bl (decide (i=j))):=by rw[am];exact rfl
theorem xU{i j:Str}:aa eqD (.str i) (.str j)=some (.bl (decide (i=j))):=by rw[am];exact rfl
theorem xV{i j:Int}:aa neD (.int i) (.int j)=some (.bl (!decide (i=j))):=by rw[am];exact rfl
theorem xW{i:Int}:aa Ek (.int i)=some (.int (-i)):=by rw[am];exact rfl
theorem bp{xs:List D}{i:Int}:aa ixD (.lst xs) (.int i)=atI xs i:=by rw[am];exact rfl
theorem lc{xs:List D}{i:Int}:aa ixD (.tup xs) (.int i)=atI xs i:=by rw[am];exact rfl
theorem DQ{xs:List D}{i:Int}:aa ixD (.fz xs) (.int i)=atI xs i:=by rw[am];exact rfl
theorem xX{α:Type}{xs:List α}{n:Nat}(h:n<xs.length):atI xs (n:Int)=xs[n]? :=by
 unfold atI ixN
 rw[if_pos (by omega),if_pos (by omega)]
 rfl
theorem bV{α:Type}{xs:List α}{i:Int}{n:Nat}{x:α}(hi:i=n)(h:xs[n]? =some x):atI xs i=some x:=by
 subst hi
 rw[xX (List.getElem?_eq_some_iff.mp h).1,h]
theorem jz{o:Option D}{r:PD.Env}:vD 0 (o::r)=o:=rfl
theorem nY{n:Nat}{o:Option D}{r:PD.Env}:vD (n+1) (o::r)=vD n r:=rfl
theorem qz{fl:List Bool}{o:Option D}{r:PD.Env}:eT (false::fl) (o::r)=o::eT fl r:=rfl
theorem qA{fl:List Bool}{o:Option D}{r:PD.Env}:eT (true::fl) (o::r)=none::eT fl r:=rfl
theorem qB{r:PD.Env}:eT [] r=[]:=rfl
theorem xY{xs:List D}{r:PD.Env}:eX 0 (some (.lst xs)::r)=some xs:=rfl
theorem xZ{n:Nat}{o:Option D}{r:PD.Env}:eX (n+1) (o::r)=eX n r:=rfl
theorem uH{xs:List D}:aa DI [.lst xs]=some (AL xs):=by rw[am];exact rfl
theorem Cp{xs ys:List D}:aa El [.lst xs, .lst ys]=some (kv xs ys):=by rw[am];exact rfl
theorem x9{xs:List D}:aa bR [.lst xs]=some (.int xs.length):=by rw[am];rfl
theorem ya{xs:List D}:aa bR [.tup xs]=some (.int xs.length):=by rw[am];rfl
theorem ba{α β:Type}{a:α}{f:α→Option β}:(some a).bind f=f a:=rfl
theorem nZ{α:Type}{a b:α}:(if true=true then a else b)=a:=rfl
theorem yb{α:Type}{a b:α}:(if false=true then a else b)=b:=rfl
theorem ck{F G:SF}{e e1:PD.Env}(h:F e=some (.nx e1)):aE F G e=G e1:=by unfold aE;rw[h];rfl
theorem dH{n:Nat}{b:SF}{ds:List D}{d:D}(h:b (io n ds)=some (.rt d)):bG n b ds=some d:=by unfold bG;rw[h];rfl
theorem lg{n:Nat}{b:SF}{ds:List D}{d:D}(h:b (io n ds)=some (.rt d)):fQ n b ds=some d:=by unfold fQ;rw[h];rfl
theorem mlo{a k:Int}(h:0<k:=by decide):0≤a%k:=Int.emod_nonneg _ (Int.ne_of_gt h)
theorem mhi{a k:Int}(h:0<k:=by decide):a%k<k:=Int.emod_lt_of_pos _ h
theorem mge{a k c m:Int}(h:0<k:=by decide)(h2:m≤c:=by decide):m≤c+a%k:=by
 have:=mlo (a:=a) h
 omega
theorem mle{a k c m:Int}(h:0<k:=by decide)(h2:c+k≤m+1:=by decide):c+a%k≤m:=by
 have:=mhi (a:=a) h
 omega
theorem DR{a:Int}(h:1≤a):0<a:=h
theorem inn{a:Int}(h:1≤a):0≤a:=Int.le_of_lt h
theorem ilt{a m n:Int}(h:a≤m)(h2:m<n:=by decide):a<n:=Int.lt_of_le_of_lt h h2
theorem ile{a m n:Int}(h:a≤m)(h2:m≤n:=by decide):a≤n:=Int.le_trans h h2
theorem ipz{b:Int}(h:0≤b)(h0:¬b=0):0<b:=by omega
theorem ine{b:Int}(h:0<b):b≠0:=Int.ne_of_gt h
theorem Eo{b:Int}(h:0<b):¬b<0:=fun q=>Int.lt_irrefl _ (Int.lt_trans h q)
theorem DS{b:Int}(h:0≤b):0<b+1:=Int.lt_add_one_of_le h
theorem itn{i:Int}(h:0≤i):i=((i.toNat:Nat):Int):=(Int.toNat_of_nonneg h).symm
theorem nit{i n:Nat}(h:i<n):(i:Int)<(n:Int):=Int.ofNat_lt.mpr h
theorem Ep{a j m n:Nat}(h:a+(m-j)≤n+1)(hj:j<m):a+(m-(j+1))≤n:=by omega
theorem DT{a j m n:Nat}(h:(m-j)+a≤n+1)(hj:j<m):(m-(j+1))+a≤n:=by omega
theorem nlt{a m n:Nat}(h:a≤m)(h2:m<n:=by decide):a<n:=Nat.lt_of_le_of_lt h h2
theorem nle{a m n:Nat}(h:a≤m)(h2:m≤n:=by decide):a≤n:=Nat.le_trans h h2
theorem nll{a m n:Nat}(h:a<m)(h2:m≤n:=by decide):a<n:=Nat.lt_of_lt_of_le h h2
theorem nla{a b m n:Nat}(h:a+b<m)(h2:m≤n:=by decide):a<n:=Nat.lt_of_le_of_lt (Nat.le_add_right a b) (Nat.lt_of_lt_of_le h h2)
set_option compiler.extract_closed false
local macro_rules | `(tactic| o_reads) => `(tactic| first | decide | exact .inl (by decide) | exact .inr (by decide) | omega)
local macro_rules | `(tactic| o_shape) => `(tactic| first | decide | exact mlo | exact mhi | exact mge | exact mle | assumption | exact Nat.le_refl _ | exact DR (by assumption) | exact inn (by assumption) | exact ilt (by assumption) | exact ile (by assumption) | exact nlt (by assumption) | exact nle (by assumption) | exact nll (by assumption) | exact nla (by assumption) | exact ine (by assumption) | exact ine (DR (by assumption)) | exact ipz (by assumption) (by assumption) | exact Int.le_of_lt (by assumption) | exact Eo (by assumption) | exact DS (by assumption) | exact ine (DS (by assumption)) | exact itn (by assumption) | exact itn mge | exact Ep (by assumption) (by assumption) | exact DT (by assumption) (by assumption) | omega)
local macro_rules | `(tactic| k_search ($a, $bs,*)) => `(tactic| simp (disch := o_reads) only [$a:term, $[$bs:term],*, slD, atO, noO, iaD, itD, uH, Cp, x9, ya, nA, bG, fQ, aE, aU, rD, j7, oO, vy, nmG, sT, nz, bq, ifS, nxS, bD, mk, qz, qA, qB, xY, xZ, oD, uD, jz, nY, cD, ap, ae, ao, cu, bF, kK, orB, j6, sP, orD, w4, ba, nZ, yb, if_true, if_false, List.set_cons_zero, List.set_cons_succ, List.length_map, List.length_range, List.length_append, List.length_cons, List.length_nil, uE, qy, rR, rS, uF, uG, xQ, xR, xS, xT, xU, xV, xW])
local macro_rules | `(tactic| k_search ($a)) => `(tactic| k_search ($a, ba))
local macro_rules | `(tactic| ktf_call $t) => `(tactic| refine (ck (by k_search $t; try rfl)).trans ?_)
theorem rT{g:GF}{b:SF}(Pv:Nat→PD.Env→Prop):∀{ds:List D} {env:PD.Env} (k:Nat),Pv k env→(∀i d e,ds[i]? =some d→Pv (k+i) e→∃e1,g d e=some e1∧∃e2,b e1=some (.nx e2)∧Pv (k+i+1) e2)→∃e',mo g b ds env=some (.nx e')∧Pv (k+ds.length) e'
 |[],env,k,h0,_=>⟨env,rfl,h0⟩
 |d::ds,env,k,h0,hs=>by
  obtain⟨e1,h1,e2,h2,p2⟩:=hs 0 d env rfl h0
  obtain⟨e',h3,p3⟩:=rT (g:=g) (b:=b) Pv (ds:=ds) (env:=e2) (k+1) p2 (fun i d e hd hp=>by
   obtain⟨f1,q1,f2,q2,q3⟩:=hs (i+1) d e hd (by rw[show k+(i+1)=k+1+i from by omega];exact hp)
   exact⟨f1,q1,f2,q2,by rw[show k+1+i+1=k+(i+1)+1 from by omega];exact q3⟩)
  refine⟨e', ?_,by rw[List.length_cons,show k+(ds.length+1)=k+1+ds.length from by omega];exact p3⟩
  rw[mo,h1,ba,h2,ba]
  exact h3
theorem i7{g:GF}{b:SF}{ds:List D}{env:PD.Env}(Pv:Nat→PD.Env→Prop)(h0:Pv 0 env)(hs:∀i d e,ds[i]? =some d→Pv i e→∃e1,g d e=some e1∧∃e2,b e1=some (.nx e2)∧Pv (i+1) e2):∃e',mo g b ds env=some (.nx e')∧Pv ds.length e':=by
 obtain⟨e',h1,h2⟩:=rT (g:=g) (b:=b) Pv 0 h0 (fun i d e hd hp=>by rw[Nat.zero_add] at hp ⊢;exact hs i d e hd hp)
 exact⟨e',h1,by rw[Nat.zero_add] at h2;exact h2⟩
theorem fV{fc:BF}{fe:VF}{caps:PD.Env}{α:Type}{mk:α→D}{f:α→D}:∀{xs:List α},(∀x∈xs,fc (some (mk x)::caps)=some true∧fe (some (mk x)::caps)=some (f x))→ny fc fe caps (xs.map mk)=some (xs.map f)
 |[],_=>rfl
 |x::xs,h=>by
  obtain⟨h1,h2⟩:=h x List.mem_cons_self
  rw[List.map_cons,ny,h1,ba,nZ,h2,ba,fV fun y hy=>h y (List.mem_cons_of_mem _ hy)]
  rfl
theorem uI:∀{xs:List Int},inS (xs.map D.int)=some xs
 |[]=>rfl
 |x::xs=>by rw[List.map_cons,inS,uI];rfl
theorem uJ:∀{xs:List Bool},blS (xs.map D.bl)=some xs
 |[]=>rfl
 |x::xs=>by rw[List.map_cons,blS,uJ];rfl
local macro_rules | `(tactic| k_search ($a, $bs,*)) => `(tactic| simp (disch := o_reads) only [$a:term, $[$bs:term],*, mtD, slD, atO, noO, iaD, itD, uH, x9, ya, nA, bG, fQ, aE, aU, rD, j7, oO, Em, vy, nmG, sT, nz, bq, ifS, nxS, bD, mk, qz, qA, qB, xY, xZ, oD, uD, jz, nY, cD, ap, ae, ao, cu, bF, kK, orB, j6, sP, orD, w4, ba, nZ, yb, if_true, if_false, List.set_cons_zero, List.set_cons_succ, List.length_map, List.length_range, List.length_append, List.length_cons, List.length_nil, uE, qy, rR, rS, uF, uG, xQ, xR, xS, Co, xT, xU, xV, xW, Bool.not_true, Bool.not_false, Bool.false_eq_true])
theorem yc{c:Nat}:∀{p q x y:List Nat},c∉p→c∉q→p++c::x=q++c::y→p=q∧x=y
 |[],[],_,_,_,_,h=>⟨rfl,(List.cons.inj h).2⟩
 |[],b::q,_,_,_,hq,h=>absurd (List.mem_cons.mpr (.inl (List.cons.inj h).1)) hq
 |a::p,[],_,_,hp,_,h=>absurd (List.mem_cons.mpr (.inl (List.cons.inj h).1.symm)) hp
 |a::p,b::q,x,y,hp,hq,h=>by
  obtain⟨e1,e2⟩:=List.cons.inj h
  obtain⟨e3,e4⟩:=yc (fun z=>hp (List.mem_cons_of_mem _ z)) (fun z=>hq (List.mem_cons_of_mem _ z)) e2
  exact⟨by rw[e1,e3],e4⟩
theorem cz(a b:Str):Tx.cs (a++b)=Tx.cs a++Tx.cs b:=by
 show (a++b).cps.toList=_
 rw[PySem.Str.cps_append,Array.toList_append]
theorem hJ(c:Nat)(x y:Str)(r:List Str):Tx.cs (Str.join ⟨#[c]⟩ (x::y::r))=Tx.cs x++c::Tx.cs (Str.join ⟨#[c]⟩ (y::r)):=by
 show Tx.cs (x++⟨#[c]⟩++Str.join ⟨#[c]⟩ (y::r))=_
 rw[cz,cz,List.append_assoc]
 rfl
theorem yd{c:Nat}:∀{ps qs:List Str},ps≠[]→qs≠[]→(∀p∈ps,c∉Tx.cs p)→(∀q∈qs,c∉Tx.cs q)→Str.join ⟨#[c]⟩ ps=Str.join ⟨#[c]⟩ qs→ps=qs
 |[],_,h,_,_,_,_=>absurd rfl h
 |_,[],_,h,_,_,_=>absurd rfl h
 |[p],[q],_,_,_,_,h=>by rw[show p=q from h]
 |[p],q::q'::r,_,_,hp,_,h=>by
  have:=congrArg Tx.cs h
  rw[hJ] at this
  exact absurd (show c∈Tx.cs p by rw[show Tx.cs p=_ from this];exact List.mem_append_right _ List.mem_cons_self) (hp p List.mem_cons_self)
 |p::p'::r,[q],_,_,_,hq,h=>by
  have:=congrArg Tx.cs h
  rw[hJ] at this
  exact absurd (show c∈Tx.cs q by rw[←show _=Tx.cs q from this];exact List.mem_append_right _ List.mem_cons_self) (hq q List.mem_cons_self)
 |p::p'::r,q::q'::s,_,_,hp,hq,h=>by
  have:=congrArg Tx.cs h
  rw[hJ,hJ] at this
  obtain⟨e1,e2⟩:=yc (hp p List.mem_cons_self) (hq q List.mem_cons_self) this
  rw[Tx.ext e1,yd (ps:=p'::r) (qs:=q'::s) (by simp) (by simp) (fun z hz=>hp z (List.mem_cons_of_mem _ hz)) (fun z hz=>hq z (List.mem_cons_of_mem _ hz)) (Tx.ext e2)]
theorem jR{c:Nat}{ps:List Str}(h:ps≠[])(hf:∀p∈ps,c∉Tx.cs p):Txt.split (Txt.join ⟨#[c]⟩ ps) ⟨#[c]⟩=ps:=by
 refine yd (fun e=> ?_) h (StrLaws.split_free _ c) hf ?_
 · have:=PyProof.Rows.split_pos (Txt.join ⟨#[c]⟩ ps) ⟨#[c]⟩
   rw[e] at this
   exact absurd this (by decide)
 · rw[StrLaws.join_split]
   exact StrLaws.glued_eq_join _ _
theorem pD{c:Nat}{x:Str}(hf:c∉Tx.cs x):Txt.split x ⟨#[c]⟩=[x]:=by
 have:=jR (ps:=[x]) (by simp) (fun p hp=>by rw[List.mem_singleton.mp hp];exact hf)
 exact this
theorem uK:Str.ofString " "=⟨#[32]⟩:=by boot_fact
theorem AX:Str.ofString "\n"=⟨#[10]⟩:=by boot_fact
theorem uL:∀{xs:List Str},stS (xs.map D.str)=some xs
 |[]=>rfl
 |x::xs=>by rw[List.map_cons,stS,uL];rfl
theorem tE{a:Str}{xs:List Str}(h:(xs.map (·.length)).sum+xs.length*a.length≤16777216):aa d8 (.str a) [.lst (xs.map D.str)]=some (.str (Txt.join a xs)):=by
 rw[am]
 show (stS (xs.map D.str)).bind _=_
 rw[uL,ba,if_pos h]
theorem qC{x:Str}{c:Nat}(h:x.length≤1000000):aa jH (.str x) [.str ⟨#[c]⟩]=some (.lst ((Txt.split x ⟨#[c]⟩).map .str)):=by
 rw[am]
 exact if_pos h
theorem n4{x y:Str}:aa kR (.str x) [.str y]=some (.bl (Txt.startswith x y)):=by rw[am];rfl
theorem Cq{x:Str}(h:x.length≤1000000):aa bR [.str x]=some (.int x.length):=by rw[am];exact if_pos h
theorem Cr{i j:Str}:aa lN (.str i) (.str j)=some (.bl (!(Builtin.Str.occurrences j i 0 j.length 1).isEmpty)):=by rw[am];rfl
theorem ye{i j:Str}:aa neD (.str i) (.str j)=some (.bl (!decide (i=j))):=by rw[am];rfl
theorem rU:aa isD .non .non=some (.bl true):=by rw[am];rfl
theorem AY{i:Int}:aa isD (.int i) .non=some (.bl false):=by rw[am];rfl
theorem pE{i:List D}:aa isD (.lst i) .non=some (.bl false):=by rw[am];rfl
theorem uM{i:List D}:aa isD (.tup i) .non=some (.bl false):=by rw[am];rfl
theorem qD{i:Int}:aa ul (.int i) .non=some (.bl true):=by rw[am];rfl
theorem DU{bs:List Bool}:aa zx [.lst (bs.map .bl)]=some (.bl (bs.all id)):=by
 rw[am]
 show (blS (bs.map D.bl)).map _=_
 rw[uJ]
 rfl
theorem qE:∀{xs:List Str},sVs (xs.map D.str)=some (xs.map V.str)
 |[]=>rfl
 |x::xs=>by rw[List.map_cons,sVs,qE];rfl
theorem qF{x:Str}:∀{xs:List Str},inV (.str x) (xs.map V.str)=decide (x∈xs)
 |[]=>by rw[decide_eq_false (by simp)];rfl
 |y::ys=>by
  show (eqV (V.str y) (V.str x)||inV (.str x) (ys.map V.str))=_
  rw[qF,show eqV (V.str y) (V.str x)=decide (y=x) from rfl]
  by_cases h:y=x
  · subst h
    rw[decide_eq_true rfl,decide_eq_true List.mem_cons_self]
    rfl
  · rw[decide_eq_false h,Bool.false_or,Bool.eq_iff_iff,decide_eq_true_iff,decide_eq_true_iff,List.mem_cons]
    exact⟨.inr,fun q=>q.resolve_left fun e=>h e.symm⟩
theorem Ct{x:Str}{xs:List Str}:aa lN (.str x) (.tup (xs.map .str))=some (.bl (decide (x∈xs))):=by
 rw[am]
 show ((some (V.str x)).bind fun z=>(some (xs.map D.str)).bind fun ys=>(sVs ys).map fun vs=>inV z vs).map D.bl=_
 rw[ba,ba,qE]
 show some (D.bl (inV (.str x) (xs.map V.str)))=_
 rw[qF]
theorem yf{x:Str}{xs:List Str}:aa lN (.str x) (.lst (xs.map .str))=some (.bl (decide (x∈xs))):=by
 rw[am]
 show ((some (V.str x)).bind fun z=>(some (xs.map D.str)).bind fun ys=>(sVs ys).map fun vs=>inV z vs).map D.bl=_
 rw[ba,ba,qE]
 show some (D.bl (inV (.str x) (xs.map V.str)))=_
 rw[qF]
theorem rV{x sg:Str}{m:Int}(hx:x.length<1000000):gL [.str x, .str sg, .int m]=some (.bl (Tx.row (fun c=>decide (c∈Tx.cs sg)) m x)):=by
 rw[gL,am]
 refine dH ?_
 show fB [some (.str x),some (.str sg),some (.int m)]=_
 unfold fB
 have hl:=Cq (Nat.le_of_lt hx)
 unfold Tx.row
 by_cases c1:(x.length:Int)<1
 · have e:decide (1≤x.length)=false:=decide_eq_false (by omega)
   rw[e]
   k_search(hl,decide_eq_true c1)
   rfl
 by_cases c2:m<(x.length:Int)
 · have e:decide ((x.length:Int)≤m)=false:=decide_eq_false (by omega)
   rw[e,Bool.and_false]
   k_search(hl,decide_eq_false c1,decide_eq_true c2)
   rfl
 rw[decide_eq_true (show 1≤x.length by omega),decide_eq_true (show (x.length:Int)≤m by omega)]
 ktf_call(hl,decide_eq_false c1,decide_eq_false c2)
 have hc:de (itD (vD 0)) gT (oD (aa lN) (vD 0) (vD 1)) [1] [some (.str x),some (.str sg),some (.int m)]=some (.lst (((Tx.cs x).map fun c=>decide (c∈Tx.cs sg)).map .bl)):=by
  unfold de
  simp only[itD,jz,ba,iP]
  rw[if_pos (by rw[List.length_map];exact Nat.lt_of_le_of_lt (Nat.le_of_eq (Tx.cs_len x)) hx),fV (f:=fun c=>D.bl (decide (c∈Tx.cs sg)))]
  · rw[List.map_map];rfl
  · intro c _
    refine⟨rfl, ?_⟩
    show oD (aa lN) (vD 0) (vD 1) [some (.str ⟨#[c]⟩),some (.str sg)]=_
    simp only[oD,jz,nY,ba,Cr,StrLaws.found_one]
 k_search(hc,DU)
 rw[List.all_map]
 rfl
theorem ix0{a:D}{r:List D}:atI (a::r) 0=some a:=bV (n:=0) rfl rfl
def n5:Option Int→D
 |none=> .non
 |some n=> .int n
def dI(x:Str)(b:Int×Int):Option Int:=(Tx.num x).bind fun n=>if b.1≤n∧n≤b.2 then some n else none
def bdT(b:Int×Int):D:= .kt [.int b.1, .int b.2]
theorem bd0{b:Int×Int}:aa ixD (bdT b) (.int 0)=some (.int b.1):=by rw[am];rfl
theorem bd1{b:Int×Int}:aa ixD (bdT b) (.int 1)=some (.int b.2):=by rw[am];rfl
theorem DV{x:Str}{n:Int}(h:intText? x=some n)(hl:x.length≤640):aa jI [.str x]=some (.int n):=by
 rw[am]
 show (if x.length≤640 then(intText? x).map D.int else none)=_
 rw[if_pos hl,h]
 rfl
theorem DW{x:Str}{m:Int}(hx:x.length<1000000):eA [.str x, .int m]=some (n5 ((Tx.num x).bind fun n=>if n≤m then some n else none)):=by
 rw[eA,am]
 refine dH ?_
 show fD [some (.str x),some (.int m),none]=_
 unfold fD
 have hr:=rV (x:=x) (sg:=Str.ofString "0123456789") (m:=60) hx
 rw[show (fun c=>decide (c∈Tx.cs (Str.ofString "0123456789")))=Tx.dig from funext Tx.in_figs] at hr
 cases hb:Tx.row Tx.dig 60 x with
 |false=>
  rw[hb] at hr
  rw[Tx.num_none hb]
  k_search(hr)
  rfl
 |true=>
  rw[hb] at hr
  obtain⟨hd,hne,hl,h1,h2⟩:=Tx.num_row hb
  ktf_call(hr)
  have hi:=DV (Tx.int_of hd hne (by omega)) (by omega)
  by_cases c1:(Tx.cs x)[0]? =some 48
  · by_cases c2:x=Str.ofString "0"
    · have nq:¬∃r,Tx.cs x=48::r∧r≠[]:=by
       rintro⟨r,e,hr⟩
       rw[(Tx.zero_iff x).mp c2] at e
       exact hr (List.cons.inj e).2.symm
      rw[h2 nq]
      ktf_call(n4,Tx.starts0,decide_eq_true c1,ye,decide_eq_true c2)
      ktf_call(hi)
      by_cases c3:m<Tx.val (Tx.cs x)
      · rw[Option.bind_some,if_neg (by omega)]
        k_search(qD,decide_eq_true c3)
        rfl
      · rw[Option.bind_some,if_pos (by omega)]
        k_search(qD,decide_eq_false c3)
        rfl
    · have q:∃r,Tx.cs x=48::r∧r≠[]:=by
       cases e:Tx.cs x with
       |nil=>exact absurd e hne
       |cons a r=>
        rw[e] at c1
        have:a=48:=Option.some.inj c1
        subst this
        exact⟨r,rfl,fun z=>c2 ((Tx.zero_iff x).mpr (by rw[e,z]))⟩
      rw[h1 q]
      k_search(n4,Tx.starts0,decide_eq_true c1,ye,decide_eq_false c2)
      rfl
  · have nq:¬∃r,Tx.cs x=48::r∧r≠[]:=by
     rintro⟨r,e,_⟩
     rw[e] at c1
     exact c1 rfl
    rw[h2 nq]
    ktf_call(n4,Tx.starts0,decide_eq_false c1)
    ktf_call(hi)
    by_cases c3:m<Tx.val (Tx.cs x)
    · rw[Option.bind_some,if_neg (by omega)]
      k_search(qD,decide_eq_true c3)
      rfl
    · rw[Option.bind_some,if_pos (by omega)]
      k_search(qD,decide_eq_false c3)
      rfl
theorem yg{x:Str}{b:Int×Int}(hx:x.length<1000000):bU [.str x,bdT b]=some (n5 (dI x b)):=by
 rw[bU,am]
 refine dH ?_
 show cV [some (.str x),some (bdT b),none]=_
 unfold cV
 have hn:=DW (x:=x) (m:=b.2) hx
 unfold dI
 cases e:Tx.num x with
 |none=>
  rw[e] at hn
  have hn:eA [.str x, .int b.2]=some .non:=hn
  ktf_call(bd1,hn)
  k_search(rU)
  rfl
 |some n=>
  rw[e,Option.bind_some] at hn
  rw[Option.bind_some]
  by_cases c1:n≤b.2
  · rw[if_pos c1] at hn
    have hn:eA [.str x, .int b.2]=some (.int n):=hn
    ktf_call(bd1,hn)
    by_cases c2:n<b.1
    · rw[if_neg (by omega)]
      k_search(AY,bd0,decide_eq_true c2)
      rfl
    · rw[if_pos ⟨by omega,c1⟩]
      k_search(AY,bd0,decide_eq_false c2)
      rfl
  · rw[if_neg c1] at hn
    have hn:eA [.str x, .int b.2]=some .non:=hn
    rw[if_neg (fun q=>c1 q.2)]
    ktf_call(bd1,hn)
    k_search(rU)
    rfl
def jA:List (Option Int)→Option (List Int)
 |[]=>some []
 |none::_=>none
 |some n::r=>(jA r).map (n:: ·)
def n6(xs:List Str)(bs:List (Int×Int)):Option (List Int):=if xs.length=bs.length then jA (List.zipWith dI xs bs) else none
def pF:Option (List Int)→D
 |none=> .non
 |some ns=> .lst (ns.map .int)
theorem mz:∀{os:List (Option Int)},∃vs,sVs (os.map n5)=some vs∧inV .non vs=(jA os).isNone∧∀ns,jA os=some ns→os.map n5=ns.map .int
 |[]=>⟨[],rfl,rfl,fun ns h=>by cases h;rfl⟩
 |none::r=>by
  obtain⟨vs,h1,h2,h3⟩:=mz (os:=r)
  exact⟨.non::vs,by show (some V.non).bind (fun x=>(sVs (r.map n5)).map (x:: ·))=_;rw[h1];rfl,rfl,fun ns h=>by cases h⟩
 |some n::r=>by
  obtain⟨vs,h1,h2,h3⟩:=mz (os:=r)
  refine⟨.int n::vs,by show (some (V.int n)).bind (fun x=>(sVs (r.map n5)).map (x:: ·))=_;rw[h1];rfl, ?_,fun ns h=> ?_⟩
  · show (eqV (V.int n) .non||inV .non vs)=_
    rw[h2,jA,Option.isNone_map]
    rfl
  · obtain⟨ms,e,rfl⟩:=Option.map_eq_some_iff.mp h
    rw[List.map_cons,h3 ms e]
    rfl
theorem uN{os:List (Option Int)}:aa lN .non (.lst (os.map n5))=some (.bl (jA os).isNone):=by
 obtain⟨vs,h1,h2,_⟩:=mz (os:=os)
 rw[am]
 show ((some V.non).bind fun z=>(some (os.map n5)).bind fun ys=>(sVs ys).map fun vs=>inV z vs).map D.bl=_
 rw[ba,ba,h1]
 show some (D.bl (inV .non vs))=_
 rw[h2]
theorem z0{xs ys:List D}(h:xs.length≤ys.length):aa xE [.lst xs, .tup ys]=some (kv xs ys):=by rw[am];exact if_pos h
theorem rX:∀{xs:List Str} {bs:List (Int×Int)} {caps:PD.Env},(∀x∈xs,x.length<1000000)→jG 2 gT (ap bU (ae (vD 0) (ae (vD 1) ao))) caps (kv (xs.map .str) (bs.map bdT))=some ((List.zipWith dI xs bs).map n5)
 |[],_,_,_=>rfl
 |_::_,[],_,_=>rfl
 |x::xs,b::bs,caps,h=>by
  show jG 2 _ _ _ (.tup [.str x,bdT b]::kv (xs.map .str) (bs.map bdT))=_
  rw[jG,if_pos (show [D.str x,bdT b].length=2 from rfl),rX fun z hz=>h z (List.mem_cons_of_mem _ hz)]
  have e:ap bU (ae (vD 0) (ae (vD 1) ao)) ([D.str x,bdT b].map some++caps)=some (n5 (dI x b)):=by
   show ap bU _ (some (D.str x)::some (bdT b)::caps)=_
   simp only[ap,ae,ao,jz,nY,ba,yg (h x List.mem_cons_self)]
  rw[e]
  rfl
theorem pG{xs:List Str}{bs:List (Int×Int)}(hx:∀x∈xs,x.length<1000000)(hb:bs.length<1000):fT [.lst (xs.map .str), .tup (bs.map bdT)]=some (pF (n6 xs bs)):=by
 rw[fT,am]
 refine dH ?_
 show eM [some (.lst (xs.map .str)),some (.tup (bs.map bdT)),none]=_
 unfold eM n6
 by_cases c:xs.length=bs.length
 · rw[if_pos c]
   ktf_call(decide_eq_true (show (xs.length:Int)=(bs.length:Int) by omega))
   have hc:uw 2 (iaD (aa xE) (ae (vD 0) (ae (vD 1) ao))) gT (ap bU (ae (vD 0) (ae (vD 1) ao))) [] [some (.lst (xs.map .str)),some (.tup (bs.map bdT)),none]=some (.lst ((List.zipWith dI xs bs).map n5)):=by
    unfold uw
    simp only[iaD,ae,ao,jz,nY,ba]
    rw[z0 (by rw[List.length_map,List.length_map,c];exact Nat.le_refl _),ba,if_pos (by unfold kv;rw[List.length_zipWith,List.length_map,List.length_map];omega),rX hx]
    rfl
   ktf_call(hc)
   obtain⟨vs,_,_,h3⟩:=mz (os:=List.zipWith dI xs bs)
   cases e:jA (List.zipWith dI xs bs) with
   |none=>
    k_search(uN,e,Option.isNone_none)
    rfl
   |some ns=>
    ktf_call(uN,e,Option.isNone_some)
    k_search(h3 ns e)
    rfl
 · rw[if_neg c]
   k_search(decide_eq_false (show ¬(xs.length:Int)=(bs.length:Int) by omega))
   rfl
def df(ws ks:List Str):Bool:=match ws with
 |[]=>false
 |w::_=>decide (w∈ks)
theorem jS{ws ks:List Str}:aQ [.lst (ws.map .str), .tup (ks.map .str)]=some (.bl (df ws ks)):=by
 rw[aQ,am]
 refine dH ?_
 show dQ [some (.lst (ws.map .str)),some (.tup (ks.map .str))]=_
 unfold dQ
 cases ws with
 |nil=>
  k_search(List.map_nil)
  rfl
 |cons w r=>
  k_search(List.map_cons,decide_eq_true (show (0:Int)<((r.length+1:Nat):Int) by omega),bp,ix0,Ct)
  rfl
theorem iJ{α:Type}{f:α→D}{xs:List α}{k:Nat}:aa cO (.lst (xs.map f)) (some (k:Int)) none=some (.lst ((xs.drop k).map f)):=by
 rw[am]
 show some (D.lst (lJ _ _ _))=_
 unfold lJ
 rw[HT.sIx_nat,HT.sIx_none,List.length_map,List.map_drop]
 congr 2
 by_cases h:k≤xs.length
 · rw[Nat.min_eq_left h,List.take_of_length_le (by rw[List.length_drop,List.length_map];omega)]
 · rw[Nat.min_eq_right (by omega),List.drop_eq_nil_of_le (by rw[List.length_map];omega),List.drop_eq_nil_of_le (by rw[List.length_map];omega),List.take_nil]
def dX(ws:List Str)(k:Str)(bs:List (Int×Int)):Option (List Int):=if df ws [k]=true then n6 (ws.drop 1) bs else none
theorem uO{ws:List Str}{k:Str}{bs:List (Int×Int)}(hx:∀x∈ws,x.length<1000000)(hb:bs.length<1000):eD [.lst (ws.map .str), .str k, .tup (bs.map bdT)]=some (pF (dX ws k bs)):=by
 rw[eD,am]
 refine dH ?_
 show fH [some (.lst (ws.map .str)),some (.str k),some (.tup (bs.map bdT))]=_
 unfold fH dX
 have h1:=jS (ws:=ws) (ks:=[k])
 rw[List.map_cons,List.map_nil] at h1
 have h2:=pG (xs:=ws.drop 1) (bs:=bs) (fun x h=>hx x (List.mem_of_mem_drop h)) hb
 cases c:df ws [k] with
 |false=>
  rw[c] at h1
  k_search(h1)
  rfl
 |true=>
  rw[c] at h1
  k_search(h1,show aa cO (.lst (ws.map D.str)) (some 1) none=some (.lst ((ws.drop 1).map .str)) from iJ (k:=1),h2)
def Cu:Option (Str×List Int)→D
 |none=> .non
 |some p=> .tup [.str p.1, .lst (p.2.map .int)]
def eE(ws:List Str)(k:Str)(bs:List (Int×Int)):Option (Str×List Int):=match ws with
 |a::n::r=>if a=k∧Tx.row Tx.low 12 n=true then(n6 r bs).map (n,·) else none
 |_=>none
theorem Cv{x:Str}(hx:x.length<1000000):j0 [.str x]=some (.bl (Tx.row Tx.low 12 x)):=by
 rw[j0,am]
 refine dH ?_
 show ic [some (.str x)]=_
 unfold ic
 have hr:=rV (x:=x) (sg:=Str.ofString "abcdefghijklmnopqrstuvwxyz") (m:=12) hx
 rw[show (fun c=>decide (c∈Tx.cs (Str.ofString "abcdefghijklmnopqrstuvwxyz")))=Tx.low from funext Tx.in_lets] at hr
 k_search(hr)
theorem uP{ws:List Str}{k:Str}{bs:List (Int×Int)}(hx:∀x∈ws,x.length<1000000)(hb:bs.length<1000):eB [.lst (ws.map .str), .str k, .tup (bs.map bdT)]=some (Cu (eE ws k bs)):=by
 rw[eB,am]
 refine dH ?_
 show fE [some (.lst (ws.map .str)),some (.str k),some (.tup (bs.map bdT)),none]=_
 unfold fE
 have h1:=jS (ws:=ws) (ks:=[k])
 rw[List.map_cons,List.map_nil] at h1
 cases ws with
 |nil=>
  have h1:aQ [.lst [], .tup [.str k]]=some (.bl false):=h1
  k_search(List.map_nil,h1)
  rfl
 |cons a ws=>
  have h1:aQ [.lst (.str a::ws.map .str), .tup [.str k]]=some (.bl (decide (a∈[k]))):=h1
  by_cases ca:a=k
  · rw[decide_eq_true (List.mem_singleton.mpr ca)] at h1
    cases ws with
    |nil=>
     have h1:aQ [.lst [.str a], .tup [.str k]]=some (.bl true):=h1
     k_search(List.map_nil,List.map_cons,h1,decide_eq_true (show (((0+1:Nat):Int))<2 by decide))
     rfl
    |cons n r=>
     have h1:aQ [.lst (.str a:: .str n::r.map .str), .tup [.str k]]=some (.bl true):=h1
     have hw:=Cv (hx n (List.mem_cons_of_mem _ List.mem_cons_self))
     have h2:=pG (xs:=r) (bs:=bs) (fun x h=>hx x (List.mem_cons_of_mem _ (List.mem_cons_of_mem _ h))) hb
     have hs:aa cO (.lst (D.str a::D.str n::r.map D.str)) (some 2) none=some (.lst (r.map .str)):=iJ (xs:=a::n::r) (k:=2)
     have ha:atI (D.str a::D.str n::r.map D.str) 1=some (.str n):=bV (n:=1) rfl rfl
     have hl:decide (((r.length+1+1:Nat):Int)<2)=false:=decide_eq_false (by omega)
     cases c:Tx.row Tx.low 12 n with
     |false=>
      rw[c] at hw
      rw[eE,if_neg (fun q=>by rw[c] at q;cases q.2)]
      k_search(List.map_cons,h1,hl,bp,ha,hw)
      rfl
     |true=>
      rw[c] at hw
      rw[eE,if_pos ⟨ca,c⟩]
      ktf_call(List.map_cons,h1,hl,bp,ha,hw)
      cases e:n6 r bs with
      |none=>
       rw[e] at h2
       ktf_call(hs,h2)
       k_search(pF,rU)
       rfl
      |some ns=>
       rw[e] at h2
       ktf_call(hs,h2)
       k_search(pF,pE,bp,ha)
       rfl
  · rw[decide_eq_false (fun q=>ca (List.mem_singleton.mp q))] at h1
    have e:eE (a::ws) k bs=none:=by
     cases ws with
     |nil=>rfl
     |cons n r=>exact if_neg fun q=>ca q.1
    rw[e]
    k_search(List.map_cons,h1)
    rfl
def aY(rows:List Str)(i:Nat):List Str:=match rows[i]? with
 |none=>[]
 |some r=>Txt.split r ⟨#[32]⟩
theorem iK{rows:List Str}{i:Nat}(hr:∀r∈rows,r.length≤1000000):aS [.lst (rows.map .str), .int (i:Int)]=some (.lst ((aY rows i).map .str)):=by
 rw[aS,am]
 refine lg ?_
 show gi [some (.lst (rows.map .str)),some (.int (i:Int))]=_
 unfold gi aY
 by_cases c:(rows.length:Int)≤(i:Int)
 · rw[List.getElem?_eq_none (by omega)]
   k_search(decide_eq_true c)
   rfl
 · have hi:i<rows.length:=by omega
   rw[List.getElem?_eq_getElem hi]
   have ha:atI (rows.map D.str) (i:Int)=some (.str rows[i]):=bV rfl (by rw[List.getElem?_map,List.getElem?_eq_getElem hi];rfl)
   ktf_call(decide_eq_false c)
   k_search(bp,ha,uK,qC (hr _ (List.getElem_mem hi)))
theorem Cw{x:Str}(hx:x.length≤1000000):i6 [.str x]=some (.lst ((Txt.split x ⟨#[10]⟩).map .str)):=by
 rw[i6,am]
 refine lg ?_
 show ib [some (.str x)]=_
 unfold ib
 k_search(AX,qC hx)
theorem uQ{i j:Int}:aa rq [.int i, .int j]=some (.int (if j<i then j else i)):=by rw[am];rfl
theorem lh{xs:List Int}{i:Int}(h0:0≤i)(h1:i<xs.length):∃x∈xs,atI (xs.map D.int) i=some (.int x):=by
 obtain⟨k,rfl⟩:=Int.eq_ofNat_of_zero_le h0
 have hk:k<xs.length:=by omega
 exact⟨xs[k],List.getElem_mem hk,bV rfl (by rw[List.getElem?_map,List.getElem?_eq_getElem hk];rfl)⟩
def qG(c o p:Int):Int:=((c%p+12345+31*o*o+o)*48271%p)*((c%p+12345+31*o*o+o)*48271%p)%998244353/3
theorem li(c o p:Int):0≤qG c o p:=by unfold qG;omega
theorem rY{c o p:Int}(hp:0<p)(hp2:p<18446744073709551616)(ho:0≤o)(ho2:o<1000):eI [.int c, .int o, .int p]=some (.int (qG c o p)):=by
 rw[eI,am]
 refine dH ?_
 show ia [some (.int c),some (.int o),some (.int p),none]=_
 unfold ia qG
 have h1:0≤(c%p+12345+31*o*o+o)*48271%p:=Int.emod_nonneg _ (by omega)
 have h2:(c%p+12345+31*o*o+o)*48271%p<p:=Int.emod_lt_of_pos _ hp
 ktf_call(hp)
 generalize (c%p+12345+31*o*o+o)*48271%p=m at h1 h2 ⊢
 k_search(hp)
structure IsW(s:Str):Prop where
 lo:1≤s.length
 hi:s.length≤12
 low:∀c∈Tx.cs s,Tx.low c=true
structure NmOk(nm:Nat→Str):Prop where
 w:∀i,i<8→IsW (nm i)
 inj:∀i j,i<8→j<8→nm i=nm j→i=j
theorem pH(c:Nat):∀(k:Nat) (acc:Array Nat),((List.replicate k #[c]).foldl (· ++ ·) acc).toList=acc.toList++List.replicate k c
 |0,acc=>by simp
 |k+1,acc=>by
  rw[List.replicate_succ,List.foldl_cons,pH c k,Array.toList_append,List.append_assoc]
  rfl
theorem jx(c:Nat)(n:Int):Tx.cs (Txt.mul ⟨#[c]⟩ n)=List.replicate n.toNat c:=by
 unfold Txt.mul
 by_cases h1:n<1
 · rw[if_pos h1,show n.toNat=0 by o_shape]
   rfl
 · rw[if_neg h1]
   by_cases h2:n=1
   · subst h2;rfl
   · have e:(n==1||(⟨#[c]⟩:Str).length==0)=false:=by
      rw[show (n==1)=false from by simpa using h2]
      rfl
     rw[e,if_neg Bool.false_ne_true]
     show ((List.replicate n.toNat #[c]).foldl (· ++ ·) #[]).toList=_
     rw[pH]
     rfl
theorem yh{c:Nat}{i:Int}(h0:0≤i)(h1:i<26)(h:(c:Int)=97+i):Tx.low c=true:=by
 unfold Tx.low
 rw[Bool.and_eq_true]
 exact⟨decide_eq_true (by o_shape),decide_eq_true (by o_shape)⟩
theorem Cy{c:Nat}{e:Int}(hc:Tx.low c=true)(e0:0≤e)(e1:e≤4):NmOk fun k=>Txt.mul ⟨#[c]⟩ ((k:Int)+1+e) where
 w:=fun i hi=>by
  have l:=Tx.cs_len (Txt.mul ⟨#[c]⟩ ((i:Int)+1+e))
  rw[jx,List.length_replicate] at l
  refine⟨by o_shape,by o_shape,fun d hd=> ?_⟩
  rw[jx] at hd
  rw[(List.mem_replicate.mp hd).2]
  exact hc
 inj:=fun i j hi hj h=>by
  have q:=congrArg Tx.cs h
  rw[jx,jx] at q
  have:=congrArg List.length q
  rw[List.length_replicate,List.length_replicate] at this
  omega
theorem Cz{c:Nat}{sg:Nat→Nat}{a b:Int}(hc:Tx.low c=true)(a0:0≤a)(b0:0≤b)(ab:a+b≤11)(hs:∀i,i<8→Tx.low (sg i)=true)(hi:∀i j,i<8→j<8→sg i=sg j→i=j):
 NmOk fun k=>Txt.mul ⟨#[c]⟩ a++⟨#[sg k]⟩++Txt.mul ⟨#[c]⟩ b where
 w:=fun i hi=>by
  have e:Tx.cs (Txt.mul ⟨#[c]⟩ a++⟨#[sg i]⟩++Txt.mul ⟨#[c]⟩ b)=List.replicate a.toNat c++[sg i]++List.replicate b.toNat c:=by rw[cz,cz,jx,jx]
  have l:=Tx.cs_len (Txt.mul ⟨#[c]⟩ a++⟨#[sg i]⟩++Txt.mul ⟨#[c]⟩ b)
  rw[e,List.length_append,List.length_append,List.length_replicate,List.length_replicate,List.length_singleton] at l
  refine⟨by o_shape,by o_shape,fun d hd=> ?_⟩
  rw[e] at hd
  simp only[List.mem_append,List.mem_replicate,List.mem_singleton] at hd
  rcases hd with(⟨_,rfl⟩|rfl)|⟨_,rfl⟩
  · exact hc
  · exact hs i hi
  · exact hc
 inj:=fun i j h1 h2 h=>by
  have q:=congrArg Tx.cs h
  simp only[cz,jx] at q
  have q2:=List.append_cancel_right q
  have q3:=List.append_cancel_left q2
  exact hi i j h1 h2 (List.cons.inj q3).1
theorem yi{i:Int}(h0:0≤i)(h1:i<26):∃c,aa ixD (.str (Str.ofString "abcdefghijklmnopqrstuvwxyz")) (.int i)=some (.str ⟨#[c]⟩)∧(c:Int)=97+i:=by
 have all:∀k:Nat,k<26→(Str.ofString "abcdefghijklmnopqrstuvwxyz").cps.toList[k]? =some (97+k):=by boot_fact
 have q:=bV (i:=i) (n:=i.toNat) (by omega) (all i.toNat (by omega))
 refine⟨97+i.toNat, ?_,by omega⟩
 have e:aa ixD (.str (Str.ofString "abcdefghijklmnopqrstuvwxyz")) (.int i)=if(Str.ofString "abcdefghijklmnopqrstuvwxyz").length≤1000000 then(atI (Str.ofString "abcdefghijklmnopqrstuvwxyz").cps.toList i).map fun c=>D.str ⟨#[c]⟩ else none:=by rw[am];rfl
 rw[e,if_pos (by boot_fact),q]
 rfl
theorem qH{a:Str}{n:Int}(h:a.length≤16∧0≤n∧n≤1000000):aa i3 (.str a) (.int n)=some (.str (Txt.mul a n)):=by rw[am];exact if_pos h
def gR(xs:List Int)(k:Nat):Int:=xs.getD k 0
theorem qI{xs:List Int}{d:D}(hd:d= .lst (xs.map D.int)∨d= .fz (xs.map D.int))(k:Nat):cM [d, .int k]=some (.int (gR xs k)):=by
 have hl:aa bR [d]=some (.int xs.length):=by rw[am];rcases hd with rfl|rfl<;>simp[bR,ng]
 rw[cM,am]
 show (gh [some d,some (.int k)]).bind _=_
 unfold gh
 by_cases h:k<xs.length
 · have hi:aa ixD d (.int k)=some (.int (gR xs k)):=by
    rcases hd with rfl|rfl
    · rw[bp]
      exact bV rfl (by rw[List.getElem?_map,List.getElem?_eq_getElem h];simp[gR,h])
    · rw[DQ]
      exact bV rfl (by rw[List.getElem?_map,List.getElem?_eq_getElem h];simp[gR,h])
   k_search(hl,hi)
   rw[decide_eq_true (by omega)]
   k_search(hl,hi)
 · have hz:gR xs k=0:=by simp[gR,h]
   k_search(hl,hz)
   rw[decide_eq_false (by omega)]
   k_search(hl,hz)
theorem dq{a b:Str}(h:a.length+b.length≤1000000):aa aA (.str a) (.str b)=some (.str (a++b)):=by rw[am];exact if_pos h
theorem uR(c:Nat):(⟨#[c]⟩:Str).length=1:=rfl
theorem mC{j:Int}(h: -1000000<j∧j<1000000):aa jF [.int j]=some ((List.range j.toNat).map fun(i:Nat)=>D.int (0+(i:Int))):=by rw[am];exact if_pos h
def nmD(nm:Nat→Str):List D:=(List.range 8).map fun k=> .str (nm k)
theorem lR{nm:Nat→Str}{i:Nat}(h:i<8):atI (nmD nm) (i:Int)=some (.str (nm i)):=bV rfl (by unfold nmD;rw[List.getElem?_map,List.getElem?_range h];rfl)
abbrev nmE(c m:Int)(f:Nat)(acc:List D)(o7 o8:Option D):PD.Env:=[some (.int c),some (.str (Str.ofString "abcdefghijklmnopqrstuvwxyz")),some (.int m),some (.int (1+m%12)),some (.int (m/12%(1+m%12))),some (.str ⟨#[f]⟩),some (.lst acc),o7,o8]
theorem z9{c:Int}:∃nm,NmOk nm∧gJ [.int c]=some (.lst (nmD nm)):=by
 have hm:=rY (c:=c) (o:=30) (p:=1000003) (by omega) (by omega) (by omega) (by omega)
 have nn:=li c 30 1000003
 generalize qG c 30 1000003=m at hm nn
 obtain⟨f,hf,fv⟩:=yi (i:=m/150%26) (by omega) (by omega)
 have flow:=yh (by omega) (by omega) fv
 have b1:0≤m/12%(1+m%12):=Int.emod_nonneg _ (by omega)
 have b2:m/12%(1+m%12)<1+m%12:=Int.emod_lt_of_pos _ (by omega)
 by_cases h3:m/4000%3=0
 · refine⟨_,Cy (c:=f) (e:=m%5) flow (by omega) (by omega), ?_⟩
   have hc:de (iaD (aa jF) (ae (cD (.int 8)) ao)) gT (oD (aa i3) (vD 2) (oD (aa aA) (oD (aa aA) (vD 0) (cD (.int 1))) (oD (aa bB) (vD 1) (cD (.int 5))))) [2,5] [some (.int c),some (.str (Str.ofString "abcdefghijklmnopqrstuvwxyz")),some (.int m),some (.int (1+m%12)),some (.int (m/12%(1+m%12))),some (.str ⟨#[f]⟩),none,none,none]=some (.lst (nmD fun k=>Txt.mul ⟨#[f]⟩ ((k:Int)+1+m%5))):=by
    unfold de
    simp only[iaD,ae,ao,cD,ba,mC (j:=8) (by omega)]
    rw[if_pos (by simp)]
    rw[fV (α:=Nat) (f:=fun k=>D.str (Txt.mul ⟨#[f]⟩ ((k:Int)+1+m%5)))]
    · rfl
    · intro k hk
      have hk8:k<8:=by simpa using hk
      refine⟨rfl, ?_⟩
      show oD (aa i3) (vD 2) _ [some (D.int (0+(k:Int))),some (.int m),some (.str ⟨#[f]⟩)]=_
      k_search(Int.zero_add)
      rw[qH ⟨by show 1≤16;omega,by omega,by omega⟩]
   rw[gJ,am]
   show (dA [some (.int c),none,none,none,none,none,none,none,none]).bind _=_
   unfold dA
   k_search(hm,hf,h3,decide_true,hc)
 · obtain⟨sg,hsg⟩:∃sg:Nat→Nat,∀k:Nat,k<8→aa ixD (.str (Str.ofString "abcdefghijklmnopqrstuvwxyz")) (.int ((m/12000+3*(k:Int))%26))=some (.str ⟨#[sg k]⟩)∧((sg k:Nat):Int)=97+(m/12000+3*(k:Int))%26:=by
    refine⟨fun k=>(97+(m/12000+3*(k:Int))%26).toNat,fun k hk=> ?_⟩
    obtain⟨q,hq,qv⟩:=yi (i:=(m/12000+3*(k:Int))%26) (by omega) (by omega)
    have:(97+(m/12000+3*(k:Int))%26).toNat=q:=by omega
    dsimp only
    rw[this]
    exact⟨hq,qv⟩
   refine⟨_,Cz (c:=f) (sg:=sg) (a:=m/12%(1+m%12)) (b:=1+m%12-1-m/12%(1+m%12)) flow (by omega) (by omega) (by omega) (fun i hi=>yh (by omega) (by omega) (hsg i hi).2) (fun i j hi hj e=> ?_), ?_⟩
   · have h1:=(hsg i hi).2
     have h2:=(hsg j hj).2
     rw[e] at h1
     omega
   have l1:(Txt.mul ⟨#[f]⟩ (m/12%(1+m%12))).length≤16:=by
    rw[←Tx.cs_len,jx,List.length_replicate]
    omega
   have l2:(Txt.mul ⟨#[f]⟩ (1+m%12-1-m/12%(1+m%12))).length≤16:=by
    rw[←Tx.cs_len,jx,List.length_replicate]
    omega
   have l3:∀i,(Txt.mul ⟨#[f]⟩ (m/12%(1+m%12))++(⟨#[sg i]⟩:Str)).length≤17:=fun i=>by
    rw[←Tx.cs_len,cz,List.length_append,Tx.cs_len,Tx.cs_len,uR]
    omega
   have h5:=qH (a:=⟨#[f]⟩) (n:=m/12%(1+m%12)) ⟨by show 1≤16;omega,by omega,by omega⟩
   have h6:=qH (a:=⟨#[f]⟩) (n:=1+m%12-1-m/12%(1+m%12)) ⟨by show 1≤16;omega,by omega,by omega⟩
   have h7:∀i,aa aA (.str (Txt.mul ⟨#[f]⟩ (m/12%(1+m%12)))) (.str ⟨#[sg i]⟩)=_:=fun i=>dq (by rw[uR];omega)
   have h8:∀i,aa aA (.str (Txt.mul ⟨#[f]⟩ (m/12%(1+m%12))++⟨#[sg i]⟩)) (.str (Txt.mul ⟨#[f]⟩ (1+m%12-1-m/12%(1+m%12))))=_:=fun i=>dq (by have:=l3 i;omega)
   obtain⟨e',hloop,o7,o8,rfl⟩:=i7 (g:=nmG 7) (b:=aE (aU 8 (mk Fb (oD (aa ixD) (vD 1) (oD (aa bB) (oD (aa aA) (oD (aa bz) (vD 2) (cD (.int 12000))) (oD (aa i3) (cD (.int 3)) (vD 7))) (cD (.int 26))))))
    (j7 6 (mk Fb (oD (aa aA) (oD (aa aA) (oD (aa i3) (vD 5) (vD 4)) (vD 8)) (oD (aa i3) (vD 5) (oD (aa gH) (oD (aa gH) (vD 3) (cD (.int 1))) (vD 4))))))) (ds:=(List.range 8).map fun(i:Nat)=>D.int (0+(i:Int)))
    (env:=nmE c m f [] none none) (fun n e=>∃o7 o8,e=nmE c m f ((List.range n).map fun k=>D.str (Txt.mul ⟨#[f]⟩ (m/12%(1+m%12))++⟨#[sg k]⟩++Txt.mul ⟨#[f]⟩ (1+m%12-1-m/12%(1+m%12)))) o7 o8) ⟨none,none,rfl⟩ (by
    rintro i d e hd ⟨o7,o8,rfl⟩
    rw[List.getElem?_map] at hd
    obtain⟨k,hk,rfl⟩:=Option.map_eq_some_iff.mp hd
    obtain⟨hk8,hk⟩:=List.getElem?_eq_some_iff.mp hk
    rw[List.getElem_range] at hk
    subst hk
    have hi8:i<8:=by simpa using hk8
    have hlt:i<1000000:=by omega
    refine⟨_,rfl,nmE c m f ((List.range (i+1)).map fun k=>D.str (Txt.mul ⟨#[f]⟩ (m/12%(1+m%12))++⟨#[sg k]⟩++Txt.mul ⟨#[f]⟩ (1+m%12-1-m/12%(1+m%12)))) (some (.int (0+(i:Int)))) (some (.str ⟨#[sg i]⟩)), ?_,_,_,rfl⟩
    k_search(nmE,Int.zero_add,(hsg i hi8).1,h5,h6,h7,h8,hlt,List.range_succ,List.map_append,List.map_cons,List.map_nil)
    )
   rw[gJ,am]
   show (dA [some (.int c),none,none,none,none,none,none,none,none]).bind _=_
   unfold dA
   have hr:aa jF [.int 8]=some ((List.range 8).map fun(i:Nat)=>D.int (0+(i:Int))):=mC (j:=8) (by omega)
   rw[nmE] at hloop
   k_search(hm,hf,h3,decide_false,nA,hr,hloop,nmE)
   rfl
theorem AZ{c:Cl}{fs:List (Fl×D)}{f:Fl}{d:D}(h:oM f (.ob c fs)=some d):aa (oM f) (.ob c fs)=some d:=by rw[am];exact h
theorem tF{xs:List D}:aa nh [.lst xs]=some (.lst xs):=by rw[am];rfl
structure Wh where
 gap:Int
 low:Int
 high:Int
def Wh.t(w:Wh):D:= .tup [.int w.gap, .int w.low, .int w.high]
structure Wh.Ok(w:Wh):Prop where
 g:1≤w.gap
 g2:w.gap≤100
 l:0≤w.low
 h:w.low≤w.high
 h2:w.high≤1000000
def fM(ws:List Wh):Int:=((ws.drop 1).map Wh.gap).sum
theorem pI{ws:List Wh}{w:Wh}(h:ws≠[]):fM (ws++[w])=fM ws+w.gap:=by
 cases ws with
 |nil=>exact absurd rfl h
 |cons a r=>
  show ((r++[w]).map Wh.gap).sum=(r.map Wh.gap).sum+w.gap
  rw[List.map_append,List.sum_append,List.map_cons,List.map_nil,List.sum_cons,List.sum_nil]
  omega
theorem uT:∀{ws:List Wh},(∀w∈ws,w.Ok)→0≤(ws.map Wh.gap).sum
 |[],_=>Int.le_refl _
 |w::r,h=>by
  rw[List.map_cons,List.sum_cons]
  have:=uT (ws:=r) fun z hz=>h z (List.mem_cons_of_mem _ hz)
  have:=(h w List.mem_cons_self).g
  omega
theorem lS{ws:List Wh}(h:∀w∈ws,w.Ok)(k:Nat):fM (ws.take k)≤fM ws:=by
 unfold fM
 have e:ws.drop 1=(ws.take k).drop 1++((ws.drop 1).drop (k-1)):=by
  rw[List.drop_take]
  exact(List.take_append_drop (k-1) (ws.drop 1)).symm
 have e2:((ws.drop 1).map Wh.gap).sum=(((ws.take k).drop 1).map Wh.gap).sum+(((ws.drop 1).drop (k-1)).map Wh.gap).sum:=by
  rw[←List.sum_append,←List.map_append,←e]
 have:=uT (ws:=(ws.drop 1).drop (k-1)) fun w hw=>h w (List.mem_of_mem_drop (List.mem_of_mem_drop hw))
 omega
theorem qJ{xs:List Int}:aa qa [.lst (xs.map D.int)]=some (.int xs.sum):=by
 rw[am]
 show (inS (xs.map D.int)).map _=_
 rw[uI]
 rfl
theorem wh0{w:Wh}:aa ixD w.t (.int 0)=some (.int w.gap):=by unfold Wh.t;rw[lc];exact ix0
theorem yj{ws:List Wh}(h:ws.length<1000):gn [.lst (ws.map Wh.t)]=some (.int (fM ws)):=by
 rw[gn,am]
 refine dH ?_
 show ie [some (.lst (ws.map Wh.t))]=_
 unfold ie
 have hc:de (itD (slD (aa cO) (vD 0) (atO (cD (.int 1))) noO)) gT (oD (aa ixD) (vD 0) (cD (.int 0))) [] [some (.lst (ws.map Wh.t))]=some (.lst (((ws.drop 1).map Wh.gap).map .int)):=by
  unfold de
  simp only[itD,slD,atO,noO,cD,jz,ba]
  rw[show aa cO (.lst (ws.map Wh.t)) (some 1) none=some (.lst ((ws.drop 1).map Wh.t)) from iJ (k:=1)]
  simp only[ba,iP]
  rw[if_pos (by rw[List.length_map,List.length_drop];omega),fV (f:=fun w:Wh=>D.int w.gap)]
  · rw[List.map_map];rfl
  · intro w _
    refine⟨rfl, ?_⟩
    show oD (aa ixD) (vD 0) (cD (.int 0)) [some w.t]=_
    simp only[oD,jz,cD,ba,wh0]
 k_search(hc,qJ)
 rfl
theorem vG{c:Int}{n:Nat}(h8:n≤8):∃ws:List Wh,ws.length=n∧(∀w∈ws,w.Ok)∧fM ws≤200∧gY [.int c, .int (n:Int)]=some (.lst (ws.map Wh.t)):=by
 obtain⟨e',hloop,ws,left,o4,o5,o6,o7,o8,o9,rfl,hl,hok,hgs,hle,_⟩:=i7 (g:=nmG 4) (b:=lB1) (ds:=(List.range n).map fun(i:Nat)=>D.int (0+(i:Int))) (env:=[some (.int c),some (.int (n:Int)),some (.lst []),some (.int 200),none,none,none,none,none,none])
  (fun i e=>∃(ws:List Wh) (left:Int) (o4 o5 o6 o7 o8 o9:Option D),e=[some (.int c),some (.int (n:Int)),some (.lst (ws.map Wh.t)),some (.int left),o4,o5,o6,o7,o8,o9]∧ws.length=i∧(∀w∈ws,w.Ok)∧fM ws=200-left∧(n:Int)-(i:Int)≤left∧left≤200)
  ⟨[],200,none,none,none,none,none,none,rfl,rfl,fun w h=>(by cases h),rfl,by omega,by omega⟩ (by
    rintro i d e hd ⟨ws,left,o4,o5,o6,o7,o8,o9,rfl,hl,hok,hgs,hlo,hhi⟩
    rw[List.getElem?_map] at hd
    obtain⟨k,hk,rfl⟩:=Option.map_eq_some_iff.mp hd
    obtain⟨hk8,hk⟩:=List.getElem?_eq_some_iff.mp hk
    rw[List.getElem_range] at hk
    subst hk
    have hi:i<n:=by simpa using hk8
    refine⟨_,rfl, ?_⟩
    have hmix:=rY (c:=c) (o:=80+(i:Int)) (p:=1000003) (by decide) (by decide) (by omega) (by omega)
    have d0:=li c (80+(i:Int)) 1000003
    generalize qG c (80+(i:Int)) 1000003=dr at hmix d0
    obtain⟨m,hm,m1,m2,m3⟩:∃m:Int,(if left-((n:Int)-1-(i:Int))<100 then left-((n:Int)-1-(i:Int)) else 100)=m∧1≤m∧m≤left-((n:Int)-1-(i:Int))∧m≤100:=⟨_,rfl,by split<;>omega,by split<;>omega,by split<;>omega⟩
    obtain⟨q,hq,q1,q2⟩:∃q:Int,(if 30<m then 30 else m)=q∧1≤q∧q≤m:=⟨_,rfl,by split<;>omega,by split<;>omega⟩
    have b1:0≤dr/4%m:=Int.emod_nonneg _ (by omega)
    have b2:dr/4%m<m:=Int.emod_lt_of_pos _ (by omega)
    have b3:0≤dr/4%q:=Int.emod_nonneg _ (by omega)
    have b4:dr/4%q<q:=Int.emod_lt_of_pos _ (by omega)
    obtain⟨g,gm,hg⟩:=lh (xs:=[1,m,1+dr/4%m,1+dr/4%q]) (i:=dr%4) (Int.emod_nonneg _ (by decide)) (Int.emod_lt_of_pos _ (by decide))
    have hg:atI [D.int 1, .int m, .int (1+dr/4%m), .int (1+dr/4%q)] (dr%4)=some (.int g):=hg
    have g1:1≤g∧g≤m:=by
     simp only[List.mem_cons,List.not_mem_nil,or_false] at gm
     omega
    obtain⟨h,hm2,hh⟩:=lh (xs:=[dr/16%10,dr/16%1000,1000000,(c+dr)%1000001]) (i:=dr/4%4) (Int.emod_nonneg _ (by decide)) (Int.emod_lt_of_pos _ (by decide))
    have hh:atI [D.int (dr/16%10), .int (dr/16%1000), .int 1000000, .int ((c+dr)%1000001)] (dr/4%4)=some (.int h):=hh
    have h1:0≤h∧h≤1000000:=by
     simp only[List.mem_cons,List.not_mem_nil,or_false] at hm2
     omega
    have b5:0≤dr/64%(h+1):=Int.emod_nonneg _ (by omega)
    have b6:dr/64%(h+1)<h+1:=Int.emod_lt_of_pos _ (by omega)
    obtain⟨l,lm,hlw⟩:=lh (xs:=[h,0,dr/64%(h+1)]) (i:=dr/32%3) (Int.emod_nonneg _ (by decide)) (Int.emod_lt_of_pos _ (by decide))
    have hlw:atI [D.int h, .int 0, .int (dr/64%(h+1))] (dr/32%3)=some (.int l):=hlw
    have l1:0≤l∧l≤h:=by
     simp only[List.mem_cons,List.not_mem_nil,or_false] at lm
     omega
    have hlen:ws.length<1000000:=by omega
    refine⟨[some (.int c),some (.int (n:Int)),some (.lst ((ws++[Wh.mk g l h]).map Wh.t)),some (.int (if 0<(i:Int) then left-g else left)),some (.int (i:Int)),some (.int dr),some (.int m),some (.int g),some (.int h),some (.int l)], ?_,ws++[Wh.mk g l h],_,_,_,_,_,_,_,rfl,by rw[List.length_append,List.length_singleton,hl],fun w hw=> ?_, ?_, ?_, ?_⟩
    · skip
      ktf_call(Int.zero_add,hmix)
      ktf_call(uQ,hm)
      ktf_call(uQ,hq,bp,hg)
      ktf_call(bp,hh)
      ktf_call(bp,hlw)
      ktf_call(hlen)
      by_cases hi0:0<(i:Int)
      · skip
        k_search(decide_eq_true hi0,if_pos hi0,List.map_append,List.map_cons,List.map_nil,Wh.t)
      · skip
        k_search(decide_eq_false hi0,if_neg hi0,List.map_append,List.map_cons,List.map_nil,Wh.t,Bool.false_eq_true)
    · rcases List.mem_append.mp hw with hw|hw
      · exact hok w hw
      · rw[List.mem_singleton.mp hw]
        exact⟨g1.1,by show g≤100;omega,l1.1,l1.2,h1.2⟩
    · by_cases hi0:0<(i:Int)
      · rw[if_pos hi0,pI (fun e=>by rw[e] at hl;simp at hl;omega),hgs]
        show 200-left+g=200-(left-g)
        omega
      · have:ws=[]:=List.length_eq_zero_iff.mp (by omega)
        subst this
        rw[if_neg hi0,←hgs]
        rfl
    · split<;>omega
    · split<;>omega)
 rw[List.length_map,List.length_range] at hl
 refine⟨ws,hl,hok,by rw[List.length_map,List.length_range] at hle;omega, ?_⟩
 rw[gY,am]
 refine lg ?_
 show eJ [some (.int c),some (.int (n:Int)),none,none,none,none,none,none,none,none]=_
 unfold eJ
 have hr:aa jF [.int (n:Int)]=some ((List.range n).map fun(i:Nat)=>D.int (0+(i:Int))):=by
  have:=mC (j:=(n:Int)) (by omega)
  rw[Int.toNat_natCast] at this
  exact this
 ktf_call(hr)
 ktf_call(hr)
 ktf_call(hr,hloop)
 k_search(hr)
structure Ld where
 name:Str
 speed:Int
 ws:List Wh
def Ld.t(l:Ld):D:= .tup [.str l.name, .int l.speed, .lst (l.ws.map Wh.t)]
def Ld.o(l:Ld):D:= .ob .Cart [(.name, .str l.name),(.speed, .int l.speed),(.wheels, .lst (l.ws.map Wh.t))]
structure Ld.Ok(l:Ld):Prop where
 nm:IsW l.name
 s:1≤l.speed
 s2:l.speed≤12
 w1:1≤l.ws.length
 w8:l.ws.length≤8
 w:∀w∈l.ws,w.Ok
 g:fM l.ws≤200
structure LdsOk(ls:List Ld):Prop where
 ok:∀l∈ls,l.Ok
 nd:(ls.map Ld.name).Nodup
abbrev ts(n:Int):Str:=Str.ofString (toString n)
theorem CA{n:Int}(h0:0≤n)(h1:n<1000000000):Tx.num (ts n)=some n:=by
 have hl:=Tx.digs_len (m:=n.natAbs) (k:=9) (by decide) (by omega)
 have hv:=Tx.digs_val n.natAbs
 unfold Tx.num
 rw[Tx.cs_nn h0]
 cases e:Tx.digs n.natAbs with
 |nil=>exact absurd e (Tx.digs_ne _)
 |cons c r=>
  rw[e] at hl hv
  show (if(c::r).length≤60∧(c::r).all Tx.dig=true∧(r=[]∨c≠48) then some (Tx.val (c::r)) else none)=_
  have hh:r=[]∨c≠48:=by
   by_cases q:c=48
   · subst q
     exact .inl (Tx.digs_head e)
   · exact .inr q
  rw[if_pos ⟨Nat.le_trans hl (by decide),by rw[←e];exact Tx.digs_all _,hh⟩,hv]
  exact congrArg some (by omega)
theorem kC{n:Int}(h0:0≤n)(h1:n<1000000000):(ts n).length≤9:=by
 have hl:=Tx.digs_len (m:=n.natAbs) (k:=9) (by decide) (by omega)
 rw[←Tx.cs_nn h0,Tx.cs_len] at hl
 exact hl
theorem mD{n:Int}{c:Nat}(h0:0≤n)(hc:c<48):c∉Tx.cs (ts n):=by
 rw[Tx.cs_nn h0]
 intro h
 have:=Tx.digs_in h
 omega
theorem n9{i:Int}(h0:0≤i)(h1:i<1000000000):aa j8 [.int i]=some (.str (ts i)):=by
 rw[am]
 refine if_pos ?_
 have:i.natAbs<2^30:=by omega
 by_cases z:i.natAbs=0
 · rw[z];decide
 · exact Nat.lt_trans ((Nat.log2_lt z).mpr this) (by decide)
theorem tG{s:Str}{c:Nat}(h:IsW s)(hc:c<97):c∉Tx.cs s:=fun q=>by
 have:=h.low c q
 unfold Tx.low at this
 rw[Bool.and_eq_true,decide_eq_true_iff] at this
 omega
theorem A0{s:Str}(h:IsW s):Tx.row Tx.low 12 s=true:=by
 unfold Tx.row
 have h1:=h.lo
 have h2:=h.hi
 rw[decide_eq_true h1,decide_eq_true (show (s.length:Int)≤12 by omega),List.all_eq_true.mpr h.low]
 rfl
abbrev loadS:Str:=Str.ofString "load"
abbrev wheelS:Str:=Str.ofString "wheel"
theorem DX:wheelS≠loadS:=by boot_fact
theorem vH{c:Nat}(h:c<97):c∉Tx.cs loadS:=by
 rw[show Tx.cs loadS=[108,111,97,100] by boot_fact]
 simp only[List.mem_cons,List.not_mem_nil,or_false]
 omega
theorem tH{c:Nat}(h:c<97):c∉Tx.cs wheelS:=by
 rw[show Tx.cs wheelS=[119,104,101,101,108] by boot_fact]
 simp only[List.mem_cons,List.not_mem_nil,or_false]
 omega
theorem yk:loadS.length=4:=by boot_fact
theorem vI:wheelS.length=5:=by boot_fact
def hws(l:Ld):List Str:=[loadS,l.name,ts l.speed]
def wws(w:Wh):List Str:=[wheelS,ts w.gap,ts w.low,ts w.high]
def iW(l:Ld):Str:=Txt.join ⟨#[32]⟩ (hws l)
def i8(w:Wh):Str:=Txt.join ⟨#[32]⟩ (wws w)
def eY(l:Ld):List Str:=iW l::l.ws.map i8
def ar(ls:List Ld):List Str:=ls.flatMap eY
theorem oa{l:Ld}(ok:l.Ok){c:Nat}(hc:c<48):∀x∈hws l,c∉Tx.cs x:=by
 intro x hx
 simp only[hws,List.mem_cons,List.not_mem_nil,or_false] at hx
 have:=ok.s
 rcases hx with rfl|rfl|rfl
 · exact vH (by omega)
 · exact tG ok.nm (by omega)
 · exact mD (by omega) hc
theorem og{w:Wh}(ok:w.Ok){c:Nat}(hc:c<48):∀x∈wws w,c∉Tx.cs x:=by
 intro x hx
 simp only[wws,List.mem_cons,List.not_mem_nil,or_false] at hx
 have h1:=ok.g
 have h2:=ok.l
 have h3:=ok.h
 rcases hx with rfl|rfl|rfl|rfl
 · exact tH (by omega)
 · exact mD (by omega) hc
 · exact mD (by omega) hc
 · exact mD (by omega) hc
theorem oh{l:Ld}(ok:l.Ok):Txt.split (iW l) ⟨#[32]⟩=hws l:=jR (by simp[hws]) (oa ok (by decide))
theorem iw{w:Wh}(ok:w.Ok):Txt.split (i8 w) ⟨#[32]⟩=wws w:=jR (by simp[wws]) (og ok (by decide))
theorem tI{c d:Nat}:∀{ps:List Str},d∈Tx.cs (Str.join ⟨#[c]⟩ ps)→d=c∨∃p∈ps,d∈Tx.cs p
 |[],h=>by cases h
 |[p],h=> .inr ⟨p,List.mem_cons_self,h⟩
 |p::q::r,h=>by
  rw[hJ] at h
  rcases List.mem_append.mp h with h|h
  · exact .inr ⟨p,List.mem_cons_self,h⟩
  · rcases List.mem_cons.mp h with h|h
    · exact .inl h
    · rcases tI h with h|⟨z,hz,h⟩
      · exact .inl h
      · exact .inr ⟨z,List.mem_cons_of_mem _ hz,h⟩
theorem ym{ps:List Str}(h:∀x∈ps,10∉Tx.cs x):10∉Tx.cs (Txt.join ⟨#[32]⟩ ps):=by
 intro q
 rw[show Txt.join ⟨#[32]⟩ ps=Str.join ⟨#[32]⟩ ps from StrLaws.glued_eq_join _ _] at q
 rcases tI q with q|⟨p,hp,q⟩
 · cases q
 · exact h p hp q
theorem Aa{ps:List Str}:(Txt.join ⟨#[32]⟩ ps).length≤(ps.map (·.length)).sum+ps.length:=by
 rw[show Txt.join ⟨#[32]⟩ ps=Str.join ⟨#[32]⟩ ps from StrLaws.glued_eq_join _ _]
 have:=StrLaws.join_length_le ⟨#[32]⟩ ps
 rw[show (⟨#[32]⟩:Str).length=1 from rfl,Nat.mul_one] at this
 exact this
theorem qK{l:Ld}(ok:l.Ok):∀x∈hws l,x.length≤12:=by
 intro x hx
 simp only[hws,List.mem_cons,List.not_mem_nil,or_false] at hx
 have:=ok.s
 have:=ok.s2
 rcases hx with rfl|rfl|rfl
 · rw[yk];decide
 · exact ok.nm.hi
 · exact Nat.le_trans (kC (by omega) (by omega)) (by decide)
theorem mE{w:Wh}(ok:w.Ok):∀x∈wws w,x.length≤12:=by
 intro x hx
 simp only[wws,List.mem_cons,List.not_mem_nil,or_false] at hx
 have h1:=ok.g
 have h2:=ok.l
 have h3:=ok.h
 have h4:=ok.g2
 have h5:=ok.h2
 rcases hx with rfl|rfl|rfl|rfl
 · rw[vI];decide
 · exact Nat.le_trans (kC (by omega) (by omega)) (by decide)
 · exact Nat.le_trans (kC (by omega) (by omega)) (by decide)
 · exact Nat.le_trans (kC (by omega) (by omega)) (by decide)
theorem rZ:∀{ps:List Str},(∀x∈ps,x.length≤12)→(ps.map (·.length)).sum≤12*ps.length
 |[],_=>Nat.le_refl _
 |p::r,h=>by
  have:=rZ (ps:=r) fun x hx=>h x (List.mem_cons_of_mem _ hx)
  have:=h p List.mem_cons_self
  rw[List.map_cons,List.sum_cons,List.length_cons]
  omega
theorem cv(l:Ld):(eY l).length=1+l.ws.length:=by unfold eY;rw[List.length_cons,List.length_map];omega
theorem gt{ls:List Ld}(ok:∀l∈ls,l.Ok):(ar ls).length≤9*ls.length:=by
 induction ls with
 |nil=>exact Nat.le_refl _
 |cons l r ih=>
  have:=ih fun z hz=>ok z (List.mem_cons_of_mem _ hz)
  have h8:=(ok l List.mem_cons_self).w8
  show (eY l++ar r).length≤_
  rw[List.length_append,cv,List.length_cons]
  omega
theorem Ab(l:Ld):Str.ofString "load "++l.name++Str.ofString " "++ts l.speed=iW l:=by
 apply Tx.ext
 unfold iW hws
 rw[show Txt.join ⟨#[32]⟩ [loadS,l.name,ts l.speed]=Str.join ⟨#[32]⟩ [loadS,l.name,ts l.speed] from StrLaws.glued_eq_join _ _,hJ,hJ,cz,cz,cz]
 rw[show Tx.cs (Str.ofString "load ")=Tx.cs loadS++[32] by boot_fact,show Tx.cs (Str.ofString " ")=[32] by boot_fact]
 simp only[List.append_assoc,List.cons_append,List.nil_append]
 rfl
theorem CB{w:Wh}(ok:w.Ok){env:PD.Env}{i:Nat}(h:vD i env=some w.t):mtD (aa d8) (cD (.str (Str.ofString " "))) (ae (oD (aa aA) (bF (ae (cD (.str (Str.ofString "wheel"))) ao)) (de (itD (vD i)) gT (ap (aa j8) (ae (vD 0) ao)) [])) ao) env=some (.str (i8 w)):=by
 have h1:=ok.g
 have h2:=ok.l
 have h3:=ok.h
 have h4:=ok.g2
 have h5:=ok.h2
 have hc:de (itD (vD i)) gT (ap (aa j8) (ae (vD 0) ao)) [] env=some (.lst [.str (ts w.gap), .str (ts w.low), .str (ts w.high)]):=by
  unfold de
  simp only[itD,h,ba]
  show ((some [D.int w.gap, .int w.low, .int w.high]).bind _)=_
  rw[ba,if_pos (by simp)]
  show (ny gT (ap (aa j8) (ae (vD 0) ao)) [] ([w.gap,w.low,w.high].map D.int)).map D.lst=_
  rw[fV (f:=fun n:Int=>D.str (ts n))]
  · rfl
  · intro n hn
    refine⟨rfl, ?_⟩
    simp only[ap,ae,ao,jz,ba]
    simp only[List.mem_cons,List.not_mem_nil,or_false] at hn
    exact n9 (by omega) (by omega)
 have ha:aa aA (.lst [.str wheelS]) (.lst [.str (ts w.gap), .str (ts w.low), .str (ts w.high)])=some (.lst ((wws w).map .str)):=by
  rw[am]
  show (if[D.str wheelS].length+[D.str (ts w.gap),D.str (ts w.low),D.str (ts w.high)].length≤1000000 then some (D.lst ([D.str wheelS]++[D.str (ts w.gap),D.str (ts w.low),D.str (ts w.high)])) else none)=_
  rw[if_pos (by simp)]
  rfl
 simp only[mtD,cD,ae,ao,oD,bF,ba,hc]
 rw[ha,ba]
 show aa d8 (.str (Str.ofString " ")) [.lst ((wws w).map .str)]=_
 rw[uK,tE]
 · rfl
 · have:=rZ (mE ok)
   rw[show (⟨#[32]⟩:Str).length=1 from rfl,show (wws w).length=4 from rfl] at*
   omega
theorem uU{ls:List Ld}(ok:∀l∈ls,l.Ok)(h8:ls.length≤8):dJ [.lst (ls.map Ld.t)]=some (.lst ((ar ls).map .str)):=by
 rw[dJ,am]
 refine lg ?_
 show cU [some (.lst (ls.map Ld.t)),none,none,none,none,none]=_
 unfold cU
 have tot:=gt ok
 obtain⟨e',hloop,o2,o3,o4,o5,rfl⟩:=i7 (g:=sT [2,3,4]) (b:=lB3) (ds:=ls.map Ld.t) (env:=[some (.lst (ls.map Ld.t)),some (.lst []),none,none,none,none])
  (fun i e=>∃o2 o3 o4 o5:Option D,e=[some (.lst (ls.map Ld.t)),some (.lst ((ar (ls.take i)).map .str)),o2,o3,o4,o5]) ⟨none,none,none,none,rfl⟩ (by
   rintro i d e hd ⟨o2,o3,o4,o5,rfl⟩
   rw[List.getElem?_map] at hd
   obtain⟨l,hl,rfl⟩:=Option.map_eq_some_iff.mp hd
   obtain⟨hi,el⟩:=List.getElem?_eq_some_iff.mp hl
   have lok:=ok l (List.mem_of_getElem? hl)
   have hs:=lok.s
   have hs2:=lok.s2
   have hw8:=lok.w8
   have hn:=lok.nm.hi
   have et:ls.take (i+1)=ls.take i++[l]:=by rw[List.take_succ,hl];rfl
   have e2:ar (ls.take (i+1))=ar (ls.take i)++eY l:=by rw[et];unfold ar;rw[List.flatMap_append];simp
   have tk:=gt (ls:=ls.take i) fun z hz=>ok z (List.mem_of_mem_take hz)
   have tk2:(ls.take i).length≤8:=by rw[List.length_take];omega
   refine⟨_,rfl, ?_⟩
   have a1:aa aA (.str (Str.ofString "load ")) (.str l.name)=some (.str (Str.ofString "load "++l.name)):=dq (by rw[show (Str.ofString "load ").length=5 by boot_fact];omega)
   have a2:aa aA (.str (Str.ofString "load "++l.name)) (.str (Str.ofString " "))=some (.str (Str.ofString "load "++l.name++Str.ofString " ")):=dq (by
    have:(Str.ofString "load "++l.name).length=5+l.name.length:=by rw[←Tx.cs_len,cz,List.length_append,Tx.cs_len,Tx.cs_len,show (Str.ofString "load ").length=5 by boot_fact]
    rw[this,show (Str.ofString " ").length=1 by boot_fact]
    omega)
   have a3:aa aA (.str (Str.ofString "load "++l.name++Str.ofString " ")) (.str (ts l.speed))=some (.str (iW l)):=by
    rw[dq,Ab]
    have:(Str.ofString "load "++l.name++Str.ofString " ").length=5+l.name.length+1:=by rw[←Tx.cs_len,cz,cz,List.length_append,List.length_append,Tx.cs_len,Tx.cs_len,Tx.cs_len,show (Str.ofString "load ").length=5 by boot_fact,show (Str.ofString " ").length=1 by boot_fact]
    have:=kC (n:=l.speed) (by omega) (by omega)
    omega
   obtain⟨e3,hin,o5',rfl⟩:=i7 (g:=nmG 5) (b:=(j7 1 (mk Fe (mtD (aa d8) (cD (.str (Str.ofString " "))) (ae (oD (aa aA) (bF (ae (cD (.str (Str.ofString "wheel"))) ao)) (de (itD (vD 5)) gT (ap (aa j8) (ae (vD 0) ao)) [])) ao))))) (ds:=l.ws.map Wh.t) (env:=[some (.lst (ls.map Ld.t)),some (.lst ((ar (ls.take i)++[iW l]).map .str)),some (.str l.name),some (.int l.speed),some (.lst (l.ws.map Wh.t)),o5])
    (fun j e=>∃o5':Option D,e=[some (.lst (ls.map Ld.t)),some (.lst ((ar (ls.take i)++iW l::(l.ws.take j).map i8).map .str)),some (.str l.name),some (.int l.speed),some (.lst (l.ws.map Wh.t)),o5']) ⟨o5,rfl⟩ (by
     rintro j d e hd ⟨o5',rfl⟩
     rw[List.getElem?_map] at hd
     obtain⟨w,hw,rfl⟩:=Option.map_eq_some_iff.mp hd
     have wok:=lok.w w (List.mem_of_getElem? hw)
     refine⟨_,rfl,[some (.lst (ls.map Ld.t)),some (.lst ((ar (ls.take i)++iW l::(l.ws.take (j+1)).map i8).map .str)),some (.str l.name),some (.int l.speed),some (.lst (l.ws.map Wh.t)),some w.t], ?_,_,rfl⟩
     have fw:=CB wok (env:=[some (.lst (ls.map Ld.t)),none,some (.str l.name),some (.int l.speed),some (.lst (l.ws.map Wh.t)),some w.t]) (i:=5) rfl
     have es:(ar (ls.take i)++iW l::(l.ws.take (j+1)).map i8).map D.str=(ar (ls.take i)++iW l::(l.ws.take j).map i8).map D.str++[.str (i8 w)]:=by
      rw[List.take_succ,hw]
      simp
     have hlen:(ar (ls.take i)).length+((List.take j l.ws).length+1)<1000000:=by rw[List.length_take];omega
     rw[es]
     unfold j7 mk
     simp only[qz,qA,qB,nmG,List.set_cons_succ,List.set_cons_zero]
     rw[fw,ba]
     simp only[xY,xZ,ba,List.length_map,List.length_append,List.length_cons]
     rw[if_pos hlen])
   refine⟨[some (.lst (ls.map Ld.t)),some (.lst ((ar (ls.take i)++iW l::(l.ws.take l.ws.length).map i8).map .str)),some (.str l.name),some (.int l.speed),some (.lst (l.ws.map Wh.t)),o5'], ?_,some (.str l.name),some (.int l.speed),some (.lst (l.ws.map Wh.t)),o5',by rw[e2,List.take_of_length_le (Nat.le_refl _)];rfl⟩
   rw[List.length_map] at hin
   have hlen:(ar (ls.take i)).length<1000000:=by omega
   ktf_call(Ld.t,a1,a2,n9 (show 0≤l.speed by omega) (show l.speed<1000000000 by omega),a3,hlen)
   rw[show List.map D.str (ar (ls.take i))++[D.str (iW l)]=(ar (ls.take i)++[iW l]).map D.str by simp]
   k_search(iP,hin)
   done)
 ktf_call(List.length_map)
 rw[List.length_map,List.take_of_length_le (Nat.le_refl _)] at hloop
 ktf_call(iP,hloop)
 k_search(ba)
theorem jT{n:Int}{b:Int×Int}(h0:0≤n)(h1:n<1000000000)(hb:b.1≤n∧n≤b.2):dI (ts n) b=some n:=by
 unfold dI
 rw[CA h0 h1,Option.bind_some,if_pos hb]
theorem uV{xs:List D}:aa nj [.lst xs]=some (.tup xs):=by rw[am];rfl
theorem ix{a b:List D}(h:a.length+b.length≤1000000):aa aA (.lst a) (.lst b)=some (.lst (a++b)):=by rw[am];exact if_pos h
theorem CC{l:Ld}{dn:List Ld}{num:Int}(ok:l.Ok)(h6:dn.length<6)(hn:l.name∉dn.map Ld.name):cC [.lst ((hws l).map .str), .int num, .lst (dn.map Ld.o)]=some (.tup [.str l.name, .lst [.int l.speed]]):=by
 have s1:=ok.s
 have s2:=ok.s2
 have hN:=uP (ws:=hws l) (k:=loadS) (bs:=[(1,12)]) (fun x hx=>Nat.lt_of_le_of_lt (qK ok x hx) (by decide)) (by decide)
 have e:eE (hws l) loadS [(1,12)]=some (l.name,[l.speed]):=by
  show (if loadS=loadS∧Tx.row Tx.low 12 l.name=true then(n6 [ts l.speed] [(1,12)]).map (l.name,·) else none)=_
  rw[if_pos ⟨rfl,A0 ok.nm⟩]
  show ((jA [dI (ts l.speed) (1,12)]).map _)=_
  rw[jT (by omega) (by omega) ⟨s1,s2⟩]
  rfl
 rw[e] at hN
 have hN:eB [.lst ((hws l).map .str), .str (Str.ofString "load"), .tup [.kt [.int 1, .int 12]]]=some (.tup [.str l.name, .lst [.int l.speed]]):=hN
 rw[cC,am]
 refine dH ?_
 show fF [some (.lst ((hws l).map .str)),some (.int num),some (.lst (dn.map Ld.o)),none]=_
 unfold fF
 ktf_call(hN)
 ktf_call(uM,decide_eq_false (show ¬(6:Int)≤(dn.length:Int) by omega))
 have hc:de (itD (vD 2)) gT (uD (aa (oM .name)) (vD 0)) [] [some (.lst ((hws l).map .str)),some (.int num),some (.lst (dn.map Ld.o)),some (.tup [.str l.name, .lst [.int l.speed]])]=some (.lst ((dn.map Ld.name).map .str)):=by
  unfold de
  simp only[itD,jz,nY,ba,iP]
  rw[if_pos (by rw[List.length_map];omega),fV (f:=fun z:Ld=>D.str z.name)]
  · rw[List.map_map];rfl
  · intro z _
    refine⟨rfl, ?_⟩
    show uD (aa (oM .name)) (vD 0) [some z.o]=_
    simp only[uD,jz,ba]
    exact AZ rfl
 ktf_call(lc,ix0,hc,yf,decide_eq_false hn)
 k_search(ba)
theorem oi{w:Wh}:df (wws w) [wheelS]=true:=by
 show decide (wheelS∈[wheelS])=true
 exact decide_eq_true (List.mem_singleton.mpr rfl)
theorem uW{w:Wh}{ws:List Wh}{num:Int}(ok:w.Ok)(h8:ws.length<8)(hg:fM (ws++[w])≤200):cB [.lst ((wws w).map .str), .int num, .lst (ws.map Wh.t)]=some w.t:=by
 have h1:=ok.g
 have h2:=ok.l
 have h3:=ok.h
 have h4:=ok.g2
 have h5:=ok.h2
 have hN:=uO (ws:=wws w) (k:=wheelS) (bs:=[(1,100),(0,1000000),(0,1000000)]) (fun x hx=>Nat.lt_of_le_of_lt (mE ok x hx) (by decide)) (by decide)
 have e:dX (wws w) wheelS [(1,100),(0,1000000),(0,1000000)]=some [w.gap,w.low,w.high]:=by
  unfold dX
  rw[if_pos oi]
  show (jA [dI (ts w.gap) (1,100),dI (ts w.low) (0,1000000),dI (ts w.high) (0,1000000)])=_
  rw[jT (by omega) (by omega) ⟨h1,h4⟩,jT (by omega) (by omega) ⟨h2,by show w.low≤1000000;omega⟩,jT (by omega) (by omega) ⟨by show 0≤w.high;omega,h5⟩]
  rfl
 rw[e] at hN
 have hN:eD [.lst ((wws w).map .str), .str (Str.ofString "wheel"), .tup [.kt [.int 1, .int 100], .kt [.int 0, .int 1000000], .kt [.int 0, .int 1000000]]]=some (.lst [.int w.gap, .int w.low, .int w.high]):=hN
 rw[cB,am]
 refine dH ?_
 show eN [some (.lst ((wws w).map .str)),some (.int num),some (.lst (ws.map Wh.t)),none,none]=_
 unfold eN
 have a1:atI [D.int w.gap, .int w.low, .int w.high] 1=some (.int w.low):=bV (n:=1) rfl rfl
 have a2:atI [D.int w.gap, .int w.low, .int w.high] 2=some (.int w.high):=bV (n:=2) rfl rfl
 ktf_call(hN)
 ktf_call(pE,bp,a1,a2,decide_eq_false (show ¬w.high<w.low by omega),decide_eq_false (show ¬(8:Int)≤(ws.length:Int) by omega))
 ktf_call(uV)
 have hs:gn [.lst (ws.map Wh.t++[.tup [.int w.gap, .int w.low, .int w.high]])]=some (.int (fM (ws++[w]))):=by
  have:=yj (ws:=ws++[w]) (by rw[List.length_append,List.length_singleton];omega)
  rw[List.map_append] at this
  exact this
 have ha:aa aA (.lst (ws.map Wh.t)) (.lst [.tup [.int w.gap, .int w.low, .int w.high]])=some (.lst (ws.map Wh.t++[.tup [.int w.gap, .int w.low, .int w.high]])):=ix (by rw[List.length_map,List.length_singleton];omega)
 ktf_call(ha,hs,decide_eq_false (show ¬(200:Int)<fM (ws++[w]) by omega))
 k_search(Wh.t)
theorem yn{xs:List D}{env:PD.Env}{i:Nat}(h:vD i env=some (.lst xs)):trD (vD i) env=some (!xs.isEmpty):=by
 unfold trD
 rw[h]
 rfl
theorem jU{R:List Str}{i:Nat}{r:Str}{ws:List Str}(h:R[i]? =some r)(e:Txt.split r ⟨#[32]⟩=ws):aY R i=ws:=by
 unfold aY
 rw[h]
 exact e
theorem uX(w:Wh):w.t.flat=true:=by simp[Wh.t,D.flat,flats]
theorem yo{R:List Str}{p0:Nat}{first:Int}{ws:List Wh}(hR:∀r∈R,r.length≤1000000)(ok:∀w∈ws,w.Ok)(h1:1≤ws.length)(h8:ws.length≤8)(hg:fM ws≤200)(hw:∀(j:Nat) (w:Wh),ws[j]? =some w→R[p0+j]? =some (i8 w))(hs:df (aY R (p0+ws.length)) [wheelS]=false):
 cE [.lst (R.map .str), .int (p0:Int), .int first]=some (.lst (ws.map Wh.t)):=by
 rw[cE,am]
 refine lg ?_
 show dR [some (.lst (R.map .str)),some (.int (p0:Int)),some (.int first),none]=_
 unfold dR
 have hb:∀k:Nat,aQ [.lst ((aY R (p0+k)).map .str), .tup [.str (Str.ofString "wheel")]]=some (.bl (df (aY R (p0+k)) [wheelS])):=fun k=>jS (ws:=aY R (p0+k)) (ks:=[wheelS])
 have hwd:∀k:Nat,aS [.lst (R.map .str), .int ((p0+k:Nat):Int)]=some (.lst ((aY R (p0+k)).map .str)):=fun k=>iK hR
 have step:∀(m k:Nat),k+m=ws.length→whN (orB (j6 (trD (vD 3))) (bD (ap aQ (ae (ap aS (ae (vD 0) (ae (vD 1) ao))) (ae (cu (ae (cD (.str (Str.ofString "wheel"))) ao)) ao))))) ((aE (oO 3 (ap cB (ae (ap aS (ae (vD 0) (ae (vD 1) ao))) (ae (oD (aa aA) (vD 2) (vD 1)) (ae (vD 3) ao))))) (aU 1 (mk [false,false,false,true] (oD (aa aA) (vD 1) (cD (.int 1))))))) (m+1) [some (.lst (R.map .str)),some (.int ((p0+k:Nat):Int)),some (.int first),some (.lst ((ws.take k).map Wh.t))]=some (.nx [some (.lst (R.map .str)),some (.int ((p0+ws.length:Nat):Int)),some (.int first),some (.lst (ws.map Wh.t))]):=by
  intro m
  induction m with
  |zero=>
   intro k hk
   have ek:k=ws.length:=by omega
   subst ek
   rw[whN,List.take_of_length_le (Nat.le_refl _)]
   have hne:(ws.map Wh.t).isEmpty=false:=by
    cases ws with
    |nil=>simp at h1
    |cons a r=>rfl
   have:=hb ws.length
   rw[hs] at this
   have htr:=yn (xs:=ws.map Wh.t) (env:=[some (.lst (R.map .str)),some (.int ((p0+ws.length:Nat):Int)),some (.int first),some (.lst (ws.map Wh.t))]) (i:=3) rfl
   rw[hne] at htr
   k_search(htr,hwd,this)
  |succ m ih=>
   intro k hk
   have hk':k<ws.length:=by omega
   have hwk:ws[k]? =some ws[k]:=List.getElem?_eq_getElem hk'
   have wok:=ok _ (List.getElem_mem hk')
   have ew:aY R (p0+k)=wws ws[k]:=jU (hw k _ hwk) (iw wok)
   have hb':=hb k
   have hw':=hwd k
   rw[ew] at hb' hw'
   rw[oi] at hb'
   have et:ws.take (k+1)=ws.take k++[ws[k]]:=by rw[List.take_succ,hwk];rfl
   have tl:(ws.take k).length=k:=by rw[List.length_take];omega
   have hF:=uW (w:=ws[k]) (ws:=ws.take k) (num:=first+((p0+k:Nat):Int)) wok (by omega) (by
    rw[←et]
    exact Int.le_trans (lS ok _) hg)
   have hfl:=uX ws[k]
   have hlen:k<1000000:=by omega
   have hif:orB (j6 (trD (vD 3))) (bD (ap aQ (ae (ap aS (ae (vD 0) (ae (vD 1) ao))) (ae (cu (ae (cD (.str (Str.ofString "wheel"))) ao)) ao)))) [some (.lst (R.map .str)),some (.int ((p0+k:Nat):Int)),some (.int first),some (.lst ((ws.take k).map Wh.t))]=some true:=by
    have:=yn (env:=[some (.lst (R.map .str)),some (.int ((p0+k:Nat):Int)),some (.int first),some (.lst ((ws.take k).map Wh.t))]) (i:=3) rfl
    cases hz:((ws.take k).map Wh.t).isEmpty with
    |true=>
     rw[hz] at this
     k_search(this)
    |false=>
     rw[hz] at this
     k_search(this,hw',hb')
   rw[whN,hif,ba,nZ]
   have hbody:((aE (oO 3 (ap cB (ae (ap aS (ae (vD 0) (ae (vD 1) ao))) (ae (oD (aa aA) (vD 2) (vD 1)) (ae (vD 3) ao))))) (aU 1 (mk [false,false,false,true] (oD (aa aA) (vD 1) (cD (.int 1))))))) [some (.lst (R.map .str)),some (.int ((p0+k:Nat):Int)),some (.int first),some (.lst ((ws.take k).map Wh.t))]=some (.nx [some (.lst (R.map .str)),some (.int ((p0+(k+1):Nat):Int)),some (.int first),some (.lst ((ws.take (k+1)).map Wh.t))]):=by
    ktf_call(hw',hF,hfl,tl,hlen)
    rw[et,List.map_append]
    k_search(show ((p0+(k+1):Nat):Int)=((p0+k:Nat):Int)+1 by omega)
    rfl
   rw[hbody,ba]
   exact ih (k+1) (by omega)
 have hloop:=xh (step ws.length 0 (by omega)) (by omega)
 rw[List.take_zero,List.map_nil,Nat.add_zero] at hloop
 ktf_call(ba)
 ktf_call(hloop)
 k_search(ba)
theorem CD{n:Str}{s:Int}{ws:List Wh}:lO [.str n, .int s, .lst (ws.map Wh.t)]=some [(.name, .str n),(.speed, .int s),(.wheels, .lst (ws.map Wh.t))]:=by
 show rE [(.name,vD 1),(.speed,vD 2),(.wheels,ap (aa nh) (ae (vD 3) ao))] [none,some (.str n),some (.int s),some (.lst (ws.map Wh.t))]=_
 simp only[rE,ap,ae,ao,jz,nY,ba,tF,Option.map_some]
theorem hU{F:SF}{G:XF}{e e1:PD.Env}(h:F e=some (.nx e1)):mq F G e=G e1:=by unfold mq;rw[h];rfl
theorem kD{R:XF}{F:SF}{G:XF}{e:PD.Env}{x:Ex}(h:R e=some x):nM R F G e=some x:=by unfold nM;rw[h]
theorem tJ{R:XF}{F:SF}{G:XF}{e e1:PD.Env}(h:R e=none)(hf:F e=some (.nx e1)):nM R F G e=G e1:=by unfold nM;rw[h];exact hU hf
structure Rws(R:List Str):Prop where
 len:∀r∈R,r.length≤1000000
 wd:∀(i:Nat),∀x∈aY R i,x.length<1000000
theorem r6:∀{os:List (Option Int)} {ns:List Int},jA os=some ns→ns.length=os.length
 |[],ns,h=>by cases h;rfl
 |none::os,ns,h=>by cases h
 |some n::os,ns,h=>by
  have h:(jA os).map (n:: ·)=some ns:=h
  obtain⟨m,hm,rfl⟩:=Option.map_eq_some_iff.mp h
  exact congrArg Nat.succ (r6 hm)
theorem yp{xs:List Str}{bs:List (Int×Int)}{ns:List Int}(h:n6 xs bs=some ns):ns.length=bs.length:=by
 unfold n6 at h
 split at h
 · rename_i e
   rw[r6 h,List.length_zipWith,e,Nat.min_self]
 · cases h
theorem A3{c:BF}{R:XF}{b:SF}{n:Nat}{env e:PD.Env}(hc:c env=some true)(hr:R env=none)(hb:b env=some (.nx e)):whR c R b (n+1) env=whR c R b n e:=by
 rw[whR,hc,ba,if_pos rfl,hr]
 dsimp only
 rw[hb]
 rfl
theorem yq{c:BF}{R:XF}{b:SF}{n:Nat}{env:PD.Env}{x:Ex}(hc:c env=some true)(hr:R env=some x):whR c R b (n+1) env=some x:=by
 rw[whR,hc,ba,if_pos rfl,hr]
theorem DY{c:BF}{R:XF}{b:SF}{n:Nat}{env:PD.Env}(hc:c env=some false):whR c R b (n+1) env=none:=by
 rw[whR,hc,ba,if_neg Bool.false_ne_true]
theorem pJ{ls:List Ld}{k:Nat}{l:Ld}(h:ls[k]? =some l):ar ls=ar (ls.take k)++(eY l++ar (ls.drop (k+1))):=by
 obtain⟨hk,e⟩:=List.getElem?_eq_some_iff.mp h
 have:ls=ls.take k++(l::ls.drop (k+1)):=by
  rw[←e,List.getElem_cons_drop hk,List.take_append_drop]
 conv=>lhs;rw[this]
 unfold ar
 rw[List.flatMap_append,List.flatMap_cons]
theorem mF{R:List Str}{ls:List Ld}{beh:List Str}(hR:R=ar ls++beh){k j:Nat}{l:Ld}(h:ls[k]? =some l)(hj:j<(eY l).length):R[(ar (ls.take k)).length+j]? =(eY l)[j]? :=by
 rw[hR,pJ h,List.append_assoc,List.append_assoc,List.getElem?_append_right (by omega),Nat.add_sub_cancel_left,List.getElem?_append_left hj]
theorem kE{ls:List Ld}{k:Nat}{l:Ld}(h:ls[k]? =some l):(ar (ls.take (k+1))).length=(ar (ls.take k)).length+1+l.ws.length:=by
 have:ls.take (k+1)=ls.take k++[l]:=by rw[List.take_succ,h];rfl
 rw[this]
 unfold ar
 rw[List.flatMap_append,List.length_append]
 show _+(eY l++[]).length=_
 rw[List.append_nil,cv]
 omega
theorem CG{s:Int}{dn:List Ld}:apL [.int s] (dn.map Ld.o)=true:=by
 cases dn with
 |nil=>rfl
 |cons d r=>rfl
theorem yr{n:Str}{s:Int}{dn:List Ld}:clr 4 [dn.map Ld.o] (.tup [.str n, .lst [.int s]])=true:=by
 show ([D.str n, .lst [.int s]].all (clr 3 [dn.map Ld.o]))=true
 show (true&&((([dn.map Ld.o].all (apL [.int s]))&&true)&&true))=true
 rw[List.all_cons,CG]
 rfl
def CH:List Str:=["Twice","TextError","WayError"]
def CI:List Str:=["TooLong","TextError","WayError"]
def oQ(n:Int)(ms:List Str):Ex:=⟨ms,[("row", .int n)]⟩
def i9(ws nms:List Str):Option (List Str):=match eE ws loadS [(1,12)] with
 |none=>some dB
 |some z=>if 6≤nms.length then some dB else if z.1∈nms then some CH else none
theorem yt{ws:List Str}{dn:List Ld}{num:Int}(hx:∀x∈ws,x.length<1000000)(hd:dn.length<1000):eC [.lst (ws.map .str), .int num, .lst (dn.map Ld.o)]=(i9 ws (dn.map Ld.name)).map (oQ num):=by
 have hN:=uP (ws:=ws) (k:=loadS) (bs:=[(1,12)]) hx (by decide)
 have hN:eB [.lst (ws.map .str), .str (Str.ofString "load"), .tup [.kt [.int 1, .int 12]]]=some (Cu (eE ws loadS [(1,12)])):=hN
 have hc:∀o3:Option D,de (itD (vD 2)) gT (uD (aa (oM .name)) (vD 0)) [] [some (.lst (ws.map .str)),some (.int num),some (.lst (dn.map Ld.o)),o3]=some (.lst ((dn.map Ld.name).map .str)):=fun o3=>by
  unfold de
  simp only[itD,jz,nY,ba,iP]
  rw[if_pos (by rw[List.length_map];omega),fV (f:=fun z:Ld=>D.str z.name)]
  · rw[List.map_map];rfl
  · intro z _
    refine⟨rfl, ?_⟩
    show uD (aa (oM .name)) (vD 0) [some z.o]=_
    simp only[uD,jz,ba]
    exact AZ rfl
 rw[eC,am]
 show fG [some (.lst (ws.map .str)),some (.int num),some (.lst (dn.map Ld.o)),none]=_
 unfold fG i9
 refine(hU (e1:=[some (.lst (ws.map .str)),some (.int num),some (.lst (dn.map Ld.o)),some (Cu (eE ws loadS [(1,12)]))]) ?_).trans ?_
 · skip
   k_search(hN)
 · cases e:eE ws loadS [(1,12)] with
   |none=>
    refine kD ?_
    show ifR _ _ _ [_,_,_,some .non]=_
    k_search(ifR,rU,fY,D.flat)
    rfl
   |some z=>
    obtain⟨nm,ns⟩:=z
    have hlm:(dn.map Ld.name).length=dn.length:=List.length_map _
    by_cases h6:6≤dn.length
    · show _=Option.map _ (if 6≤(dn.map Ld.name).length then _ else _)
      rw[if_pos (by omega)]
      refine kD ?_
      show ifR _ _ _ [_,_,_,some (.tup [.str nm, .lst (ns.map .int)])]=_
      k_search(ifR,uM,decide_eq_true (show (6:Int)≤(dn.length:Int) by omega),fY,D.flat,Bool.false_eq_true)
      rfl
    · show _=Option.map _ (if 6≤(dn.map Ld.name).length then _ else _)
      rw[if_neg (by omega)]
      have h6':¬(6:Int)≤(dn.length:Int):=by omega
      refine(tJ (e1:=[some (.lst (ws.map .str)),some (.int num),some (.lst (dn.map Ld.o)),some (.tup [.str nm, .lst (ns.map .int)])]) ?_ ?_).trans ?_
      · show ifR _ _ _ [_,_,_,some (.tup [.str nm, .lst (ns.map .int)])]=_
        k_search(ifR,uM,decide_eq_false h6',noR,Bool.false_eq_true)
      · show ifS _ _ _ [_,_,_,some (.tup [.str nm, .lst (ns.map .int)])]=_
        k_search(uM,decide_eq_false h6',Bool.false_eq_true)
      · show ifR _ _ _ [_,_,_,some (.tup [.str nm, .lst (ns.map .int)])]=Option.map _ (if nm∈dn.map Ld.name then _ else _)
        have hc:=hc (some (.tup [.str nm, .lst (ns.map .int)]))
        have hi:=yf (x:=nm) (xs:=dn.map Ld.name)
        by_cases hm:nm∈dn.map Ld.name
        · rw[if_pos hm]
          rw[decide_eq_true hm] at hi
          generalize (dn.map Ld.name).map D.str=RD at hc hi
          k_search(ifR,lc,ix0,hc,hi,fY,D.flat)
          rfl
        · rw[if_neg hm]
          rw[decide_eq_false hm] at hi
          generalize (dn.map Ld.name).map D.str=RD at hc hi
          k_search(ifR,lc,ix0,hc,hi,noR,Bool.false_eq_true)
          rfl
def whB:List (Int×Int):=[(1,100),(0,1000000),(0,1000000)]
def dY(ws:List Str)(vs:List Wh):Option (List Str):=match dX ws wheelS whB with
 |none=>some dB
 |some ns=>if ns.getD 2 0<ns.getD 1 0 then some dB else if 8≤vs.length then some dB else if 200<fM (vs++[⟨ns.getD 0 0,ns.getD 1 0,ns.getD 2 0⟩]) then some CI else none
theorem Ac{ws:List Str}{vs:List Wh}{num:Int}(hx:∀x∈ws,x.length<1000000)(hv:vs.length<999):eP [.lst (ws.map .str), .int num, .lst (vs.map Wh.t)]=(dY ws vs).map (oQ num):=by
 have hN:=uO (ws:=ws) (k:=wheelS) (bs:=whB) hx (by decide)
 have hN:eD [.lst (ws.map .str), .str (Str.ofString "wheel"), .tup [.kt [.int 1, .int 100], .kt [.int 0, .int 1000000], .kt [.int 0, .int 1000000]]]=some (pF (dX ws wheelS whB)):=hN
 rw[eP,am]
 show eO [some (.lst (ws.map .str)),some (.int num),some (.lst (vs.map Wh.t)),none,none]=_
 unfold eO dY
 refine(hU (e1:=[some (.lst (ws.map .str)),some (.int num),some (.lst (vs.map Wh.t)),some (pF (dX ws wheelS whB)),none]) ?_).trans ?_
 · skip
   k_search(hN)
 · cases e:dX ws wheelS whB with
   |none=>
    refine kD ?_
    show ifR _ _ _ [_,_,_,some .non,_]=_
    k_search(ifR,rU,fY,D.flat)
    rfl
   |some ns=>
    have hl:ns.length=3:=by
     unfold dX at e
     split at e
     · exact yp e
     · cases e
    obtain⟨g,l,h,rfl⟩:∃g l h,ns=[g,l,h]:=by
     match ns,hl with
     |[g,l,h],_=>exact⟨g,l,h,rfl⟩
    have a1:atI [D.int g, .int l, .int h] 1=some (.int l):=bV (n:=1) rfl rfl
    have a2:atI [D.int g, .int l, .int h] 2=some (.int h):=bV (n:=2) rfl rfl
    show _=Option.map _ (if h<l then _ else _)
    by_cases hlt:h<l
    · rw[if_pos hlt]
      refine kD ?_
      show ifR _ _ _ [_,_,_,some (.lst [.int g, .int l, .int h]),_]=_
      k_search(ifR,pE,bp,a1,a2,decide_eq_true hlt,fY,D.flat,Bool.false_eq_true)
      rfl
    · rw[if_neg hlt]
      by_cases h8:8≤vs.length
      · rw[if_pos h8]
        refine kD ?_
        show ifR _ _ _ [_,_,_,some (.lst [.int g, .int l, .int h]),_]=_
        k_search(ifR,pE,bp,a1,a2,decide_eq_false hlt,decide_eq_true (show (8:Int)≤(vs.length:Int) by omega),fY,D.flat,Bool.false_eq_true)
        rfl
      · rw[if_neg h8]
        have h8':¬(8:Int)≤(vs.length:Int):=by omega
        refine(tJ (e1:=[some (.lst (ws.map .str)),some (.int num),some (.lst (vs.map Wh.t)),some (.lst [.int g, .int l, .int h]),none]) ?_ ?_).trans ?_
        · show ifR _ _ _ [_,_,_,some (.lst [.int g, .int l, .int h]),_]=_
          k_search(ifR,pE,bp,a1,a2,decide_eq_false hlt,decide_eq_false h8',noR,Bool.false_eq_true)
        · show ifS _ _ _ [_,_,_,some (.lst [.int g, .int l, .int h]),_]=_
          k_search(pE,bp,a1,a2,decide_eq_false hlt,decide_eq_false h8',Bool.false_eq_true)
        · refine(hU (e1:=[some (.lst (ws.map .str)),some (.int num),some (.lst (vs.map Wh.t)),some (.lst [.int g, .int l, .int h]),some (.tup [.int g, .int l, .int h])]) ?_).trans ?_
          · skip
            k_search(uV)
          · have hs:gn [.lst (vs.map Wh.t++[.tup [.int g, .int l, .int h]])]=some (.int (fM (vs++[⟨g,l,h⟩]))):=by
             have:=yj (ws:=vs++[⟨g,l,h⟩]) (by rw[List.length_append,List.length_singleton];omega)
             rw[List.map_append] at this
             exact this
            have ha:aa aA (.lst (vs.map Wh.t)) (.lst [.tup [.int g, .int l, .int h]])=some (.lst (vs.map Wh.t++[.tup [.int g, .int l, .int h]])):=ix (by rw[List.length_map,List.length_singleton];omega)
            show _=Option.map _ (if 200<fM (vs++[⟨g,l,h⟩]) then _ else _)
            by_cases hg:200<fM (vs++[⟨g,l,h⟩])
            · rw[if_pos hg]
              k_search(ifR,ha,hs,decide_eq_true hg,fY,D.flat)
              rfl
            · rw[if_neg hg]
              k_search(ifR,ha,hs,decide_eq_false hg,noR,Bool.false_eq_true)
              rfl
theorem Ad{w:Wh}(ok:w.Ok):dX (wws w) wheelS whB=some [w.gap,w.low,w.high]:=by
 have h1:=ok.g;have h2:=ok.l;have h3:=ok.h;have h4:=ok.g2;have h5:=ok.h2
 unfold dX
 rw[if_pos oi]
 show (jA [dI (ts w.gap) (1,100),dI (ts w.low) (0,1000000),dI (ts w.high) (0,1000000)])=_
 rw[jT (by omega) (by omega) ⟨h1,h4⟩,jT (by omega) (by omega) ⟨h2,by show w.low≤1000000;omega⟩,jT (by omega) (by omega) ⟨by show 0≤w.high;omega,h5⟩]
 rfl
theorem r9{w:Wh}(ok:w.Ok){vs:List Wh}:dY (wws w) vs=if 8≤vs.length then some dB else if 200<fM (vs++[w]) then some CI else none:=by
 have h3:=ok.h
 unfold dY
 rw[Ad ok]
 show (if w.high<w.low then _ else _)=_
 rw[if_neg (by omega)]
 rfl
theorem vJ{w:Wh}(ok:w.Ok){vs:List Wh}(h8:vs.length<8)(hg:fM (vs++[w])≤200):dY (wws w) vs=none:=by
 rw[r9 ok,if_neg (by omega),if_neg (by omega)]
theorem Ae{l:Ld}(nm:IsW l.name)(s1:1≤l.speed)(s2:l.speed≤12):eE (hws l) loadS [(1,12)]=some (l.name,[l.speed]):=by
 show (if loadS=loadS∧Tx.row Tx.low 12 l.name=true then(n6 [ts l.speed] [(1,12)]).map (l.name,·) else none)=_
 rw[if_pos ⟨rfl,A0 nm⟩]
 show ((jA [dI (ts l.speed) (1,12)]).map _)=_
 rw[jT (by omega) (by omega) ⟨s1,s2⟩]
 rfl
theorem uY{l:Ld}(nm:IsW l.name)(s1:1≤l.speed)(s2:l.speed≤12){nms:List Str}:i9 (hws l) nms=if 6≤nms.length then some dB else if l.name∈nms then some CH else none:=by
 unfold i9
 rw[Ae nm s1 s2]
noncomputable def cW:BF:=orB (j6 (trD (vD 3))) (bD (ap aQ (ae (ap aS (ae (vD 0) (ae (vD 1) ao))) (ae (cu (ae (cD (.str (Str.ofString "wheel"))) ao)) ao))))
noncomputable def rW:XF:=zW 3 (i4 eP (ae (ap aS (ae (vD 0) (ae (vD 1) ao))) (ae (oD (aa aA) (vD 2) (vD 1)) (ae (vD 3) ao))))
noncomputable def bW:SF:=(aE (oO 3 (ap cB (ae (ap aS (ae (vD 0) (ae (vD 1) ao))) (ae (oD (aa aA) (vD 2) (vD 1)) (ae (vD 3) ao))))) (aU 1 (mk [false,false,false,true] (oD (aa aA) (vD 1) (cD (.int 1))))))
def eW(R:List Str)(p:Nat)(first:Int)(vs:List Wh):PD.Env:=[some (.lst (R.map .str)),some (.int (p:Int)),some (.int first),some (.lst (vs.map Wh.t))]
theorem yu{R:List Str}{p:Nat}{first:Int}{vs:List Wh}(hR:Rws R):cW (eW R p first vs)=some (vs.isEmpty||df (aY R p) [wheelS]):=by
 have hb:aQ [.lst ((aY R p).map .str), .tup [.str (Str.ofString "wheel")]]=some (.bl (df (aY R p) [wheelS])):=jS (ks:=[wheelS])
 have hw:=iK (i:=p) hR.len
 have ht:=yn (env:=eW R p first vs) (i:=3) rfl
 unfold cW
 cases vs with
 |nil=>
  have ht:trD (vD 3) (eW R p first [])=some false:=ht
  k_search(ht)
  rfl
 |cons v r=>
  have ht:trD (vD 3) (eW R p first (v::r))=some true:=ht
  unfold eW at ht ⊢
  k_search(ht,hw,hb,List.isEmpty_cons,Bool.false_or)
theorem A4{R:List Str}{p:Nat}{first:Int}{vs:List Wh}(hR:Rws R)(hv:vs.length<999):rW (eW R p first vs)=(dY (aY R p) vs).map (oQ (first+(p:Int))):=by
 have hw:=iK (i:=p) hR.len
 have hX:=Ac (vs:=vs) (num:=first+(p:Int)) (hR.wd p) hv
 unfold rW eW
 k_search(zW,i4,hw,hX)
theorem DZ{R:List Str}{p:Nat}{first:Int}{vs:List Wh}{w:Wh}(hR:Rws R)(e:aY R p=wws w)(ok:w.Ok)(h8:vs.length<8)(hg:fM (vs++[w])≤200):bW (eW R p first vs)=some (.nx (eW R (p+1) first (vs++[w]))):=by
 have hw:=iK (i:=p) hR.len
 rw[e] at hw
 have hF:=uW (w:=w) (ws:=vs) (num:=first+(p:Int)) ok h8 hg
 have hfl:=uX w
 have hlen:vs.length<1000000:=by omega
 unfold bW eW
 ktf_call(hw,hF,hfl,hlen)
 rw[List.map_append]
 k_search(show ((p+1:Nat):Int)=(p:Int)+1 by omega)
 rfl
structure Whs(R:List Str)(p0:Nat)(ws:List Wh):Prop where
 rw:Rws R
 ok:∀w∈ws,w.Ok
 h8:ws.length≤8
 g:fM ws≤200
 at_:∀(j:Nat) (w:Wh),ws[j]? =some w→aY R (p0+j)=wws w
theorem A5{R:List Str}{p0:Nat}{first:Int}{ws:List Wh}(h:Whs R p0 ws){m:Nat}:∀{k:Nat},k≤ws.length→whR cW rW bW (m+k) (eW R p0 first [])=whR cW rW bW m (eW R (p0+k) first (ws.take k))
 |0,_=>rfl
 |k+1,hk=>by
  have h8:=h.h8
  have hwk:ws[k]? =some ws[k]:=List.getElem?_eq_getElem (by omega)
  have wok:=h.ok _ (List.mem_of_getElem? hwk)
  have ew:=h.at_ k _ hwk
  have et:ws.take (k+1)=ws.take k++[ws[k]]:=by rw[List.take_succ,hwk];rfl
  have tl:(ws.take k).length=k:=by rw[List.length_take];omega
  have hg:fM (ws.take k++[ws[k]])≤200:=by rw[←et];exact Int.le_trans (lS h.ok _) h.g
  rw[show m+(k+1)=(m+1)+k by omega,A5 h (m:=m+1) (k:=k) (by omega),et]
  refine A3 ?_ ?_ ?_
  · rw[yu h.rw,ew,oi,Bool.or_true]
  · rw[A4 h.rw (by omega),ew,vJ wok (by omega) hg]
    rfl
  · exact DZ h.rw ew wok (by omega) hg
theorem A6{R:List Str}{p0:Nat}{first:Int}{ws:List Wh}(h:Whs R p0 ws):bZ [.lst (R.map .str), .int (p0:Int), .int first]=whR cW rW bW (1000000-ws.length) (eW R (p0+ws.length) first ws):=by
 have h8:=h.h8
 rw[bZ,am]
 show dS [some (.lst (R.map .str)),some (.int (p0:Int)),some (.int first),none]=_
 unfold dS
 refine(hU (e1:=eW R p0 first []) ?_).trans ?_
 · unfold eW
   k_search(List.map_nil)
 · show whR cW rW bW 1000000 _=_
   rw[show (1000000:Nat)=(1000000-ws.length)+ws.length by omega,A5 h (Nat.le_refl _),List.take_of_length_le (Nat.le_refl _),Nat.add_sub_cancel]
theorem Af{R:List Str}{p0:Nat}{first:Int}{ws:List Wh}{ms:List Str}(h:Whs R p0 ws)(hb:ws=[]∨df (aY R (p0+ws.length)) [wheelS]=true)(hx:dY (aY R (p0+ws.length)) ws=some ms):bZ [.lst (R.map .str), .int (p0:Int), .int first]=some (oQ (first+((p0+ws.length:Nat):Int)) ms):=by
 have h8:=h.h8
 rw[A6 h,show 1000000-ws.length=(999999-ws.length)+1 by omega]
 refine yq ?_ ?_
 · rw[yu h.rw]
   rcases hb with rfl|hb
   · rfl
   · rw[hb,Bool.or_true]
 · rw[A4 h.rw (by omega),hx]
   rfl
theorem Ag{R:List Str}{p0:Nat}{first:Int}{ws:List Wh}(h:Whs R p0 ws)(h1:ws≠[])(hb:df (aY R (p0+ws.length)) [wheelS]=false):bZ [.lst (R.map .str), .int (p0:Int), .int first]=none:=by
 have h8:=h.h8
 rw[A6 h,show 1000000-ws.length=(999999-ws.length)+1 by omega]
 refine DY ?_
 rw[yu h.rw,hb,Bool.or_false]
 cases ws with
 |nil=>exact absurd rfl h1
 |cons a r=>rfl
noncomputable def cL:BF:=bD (ap aQ (ae (ap aS (ae (vD 0) (ae (vD 3) ao))) (ae (cu (ae (cD (.str (Str.ofString "load"))) (ae (cD (.str (Str.ofString "wheel"))) ao))) ao)))
noncomputable def hL:SF:=rG Fh 4 (ap cC (ae (ap aS (ae (vD 0) (ae (vD 3) ao))) (ae (oD (aa aA) (vD 1) (vD 3)) (ae (vD 2) ao))))
noncomputable def rL:XF:=nM (i4 eC (ae (ap aS (ae (vD 0) (ae (vD 3) ao))) (ae (oD (aa aA) (vD 1) (vD 3)) (ae (vD 2) ao)))) hL (i4 bZ (ae (vD 0) (ae (oD (aa aA) (vD 3) (cD (.int 1))) (ae (vD 1) ao))))
noncomputable def bL:SF:=(aE (rG Fh 4 (ap cC (ae (ap aS (ae (vD 0) (ae (vD 3) ao))) (ae (oD (aa aA) (vD 1) (vD 3)) (ae (vD 2) ao))))) (aE (aU 5 (mk Fh (ap cE (ae (vD 0) (ae (oD (aa aA) (vD 3) (cD (.int 1))) (ae (vD 1) ao)))))) (aE (j7 2 (mk Fh (pA .Cart lO (ae (oD (aa ixD) (vD 4) (cD (.int 0))) (ae (oD (aa ixD) (oD (aa ixD) (vD 4) (cD (.int 1))) (cD (.int 0))) (ae (vD 5) ao)))))) (aU 3 (mk Fh (oD (aa aA) (oD (aa aA) (vD 3) (cD (.int 1))) (ap (aa bR) (ae (vD 5) ao))))))))
def eL(R:List Str)(first:Int)(dn:List Ld)(p:Nat)(o4 o5:Option D):PD.Env:=[some (.lst (R.map .str)),some (.int first),some (.lst (dn.map Ld.o)),some (.int (p:Int)),o4,o5]
theorem yw{R:List Str}{first:Int}{dn:List Ld}{p:Nat}{o4 o5:Option D}(hR:Rws R):cL (eL R first dn p o4 o5)=some (df (aY R p) [loadS,wheelS]):=by
 have hb:aQ [.lst ((aY R p).map .str), .tup [.str (Str.ofString "load"), .str (Str.ofString "wheel")]]=some (.bl (df (aY R p) [loadS,wheelS])):=jS (ks:=[loadS,wheelS])
 have hw:=iK (i:=p) hR.len
 unfold cL eL
 k_search(hw,hb)
theorem Er{R:List Str}{first:Int}{dn:List Ld}{p:Nat}{o4 o5:Option D}{ms:List Str}(hR:Rws R)(hd:dn.length<1000)(hx:i9 (aY R p) (dn.map Ld.name)=some ms):rL (eL R first dn p o4 o5)=some (oQ (first+(p:Int)) ms):=by
 have hw:=iK (i:=p) hR.len
 have hX:=yt (dn:=dn) (num:=first+(p:Int)) (hR.wd p) hd
 rw[hx] at hX
 refine kD ?_
 unfold eL
 k_search(i4,hw,hX)
 rfl
structure Hd(R:List Str)(p:Nat)(dn:List Ld)(l:Ld):Prop where
 rw:Rws R
 nm:IsW l.name
 s:1≤l.speed
 s2:l.speed≤12
 h6:dn.length<6
 new:l.name∉dn.map Ld.name
 at_:aY R p=hws l
def hdD(l:Ld):D:= .tup [.str l.name, .lst [.int l.speed]]
theorem Es{R:List Str}{p:Nat}{dn:List Ld}{l:Ld}{num:Int}(h:Hd R p dn l):cC [.lst ((hws l).map .str), .int num, .lst (dn.map Ld.o)]=some (hdD l):=
 CC (l:=⟨l.name,l.speed,[⟨1,0,0⟩]⟩) ⟨h.nm,h.s,h.s2,by show 1≤1;decide,by show 1≤8;decide,fun w hw=>by rw[List.mem_singleton.mp hw];exact⟨by decide,by decide,by decide,by decide,by decide⟩,by show (0:Int)≤200;decide⟩ h.h6 h.new
theorem A7{R:List Str}{p:Nat}{first:Int}{dn:List Ld}{l:Ld}{o4 o5:Option D}(h:Hd R p dn l):hL (eL R first dn p o4 o5)=some (.nx (eL R first dn p (some (hdD l)) o5)):=by
 have hw:=iK (i:=p) h.rw.len
 rw[h.at_] at hw
 have hF:=Es (num:=first+(p:Int)) h
 have hc:clr 4 [dn.map Ld.o] (hdD l)=true:=yr
 unfold hL eL
 have ho:sZ Fh [some (.lst (R.map .str)),some (.int first),some (.lst (dn.map Ld.o)),some (.int (p:Int)),o4,o5]=[dn.map Ld.o]:=rfl
 k_search(rG,hw,hF,ho,hc)
theorem D0{R:List Str}{p:Nat}{first:Int}{dn:List Ld}{l:Ld}{o4 o5:Option D}(h:Hd R p dn l):rL (eL R first dn p o4 o5)=bZ [.lst (R.map .str), .int ((p+1:Nat):Int), .int first]:=by
 have h6:=h.h6
 have hw:=iK (i:=p) h.rw.len
 have hX:=yt (dn:=dn) (num:=first+(p:Int)) (h.rw.wd p) (by omega)
 rw[h.at_,uY h.nm h.s h.s2,if_neg (by rw[List.length_map];omega),if_neg h.new] at hX
 rw[h.at_] at hw
 have hX:eC [.lst ((hws l).map .str), .int (first+(p:Int)), .lst (dn.map Ld.o)]=none:=hX
 refine(tJ (e1:=eL R first dn p (some (hdD l)) o5) ?_ (A7 h)).trans ?_
 · unfold eL
   k_search(i4,hw,hX)
 · rw[show ((p+1:Nat):Int)=(p:Int)+1 by omega]
   unfold eL
   k_search(i4)
theorem D1{R:List Str}{p:Nat}{first:Int}{dn:List Ld}{l:Ld}{o4 o5:Option D}(h:Hd R p dn l)(hW:cE [.lst (R.map .str), .int ((p+1:Nat):Int), .int first]=some (.lst (l.ws.map Wh.t))):bL (eL R first dn p o4 o5)=some (.nx (eL R first (dn++[l]) (p+1+l.ws.length) (some (hdD l)) (some (.lst (l.ws.map Wh.t))))):=by
 have h6:=h.h6
 rw[show ((p+1:Nat):Int)=(p:Int)+1 by omega] at hW
 have hm:pA .Cart lO (ae (oD (aa ixD) (vD 4) (cD (.int 0))) (ae (oD (aa ixD) (oD (aa ixD) (vD 4) (cD (.int 1))) (cD (.int 0))) (ae (vD 5) ao))) [some (.lst (R.map .str)),some (.int first),none,some (.int (p:Int)),some (hdD l),some (.lst (l.ws.map Wh.t))]=some l.o:=by
  have a0:atI [D.str l.name, .lst [.int l.speed]] 0=some (.str l.name):=ix0
  have a1:atI [D.str l.name, .lst [.int l.speed]] 1=some (.lst [.int l.speed]):=bV (n:=1) rfl rfl
  have a2:atI [D.int l.speed] 0=some (.int l.speed):=ix0
  unfold hdD
  simp only[pA,oD,ae,ao,cD,jz,nY,ba,lc,bp,a0,a1,a2,CD,Option.map_some]
  rfl
 have hlen:dn.length<1000000:=by omega
 unfold bL
 refine(ck (A7 h)).trans ?_
 unfold eL
 ktf_call(hW)
 ktf_call(hm,hlen)
 rw[List.map_append]
 k_search(show ((p+1+l.ws.length:Nat):Int)=(p:Int)+1+(l.ws.length:Int) by omega)
 rfl
structure Lds(R:List Str)(ls:List Ld):Prop where
 rw:Rws R
 ok:LdsOk ls
 h6:ls.length≤6
 beh:∃E,R=ar ls++E
theorem Lds.hd{R:List Str}{ls:List Ld}(h:Lds R ls){k:Nat}{l:Ld}(hk:ls[k]? =some l):Hd R (ar (ls.take k)).length (ls.take k) l:=by
 obtain⟨E,hE⟩:=h.beh
 have h6:=h.h6
 have ok:=h.ok.ok l (List.mem_of_getElem? hk)
 have hk':=(List.getElem?_eq_some_iff.mp hk).1
 refine⟨h.rw,ok.nm,ok.s,ok.s2,by rw[List.length_take];omega, ?_, ?_⟩
 · have nd:=h.ok.nd
   have e:ls.map Ld.name=(ls.take k).map Ld.name++(l.name::(ls.drop (k+1)).map Ld.name):=by
    obtain⟨hk2,e⟩:=List.getElem?_eq_some_iff.mp hk
    rw[←e,←List.map_cons,List.getElem_cons_drop hk2,←List.map_append,List.take_append_drop]
   rw[e] at nd
   exact fun q=>(List.nodup_append.mp nd).2.2 _ q _ List.mem_cons_self rfl
 · refine jU ?_ (oh ok)
   have:=mF hE hk (j:=0) (by rw[cv];omega)
   rw[Nat.add_zero] at this
   exact this
theorem Lds.row{R:List Str}{ls:List Ld}(h:Lds R ls){k j:Nat}{l:Ld}{w:Wh}(hk:ls[k]? =some l)(hj:l.ws[j]? =some w):R[(ar (ls.take k)).length+1+j]? =some (i8 w):=by
 obtain⟨E,hE⟩:=h.beh
 have hj':=(List.getElem?_eq_some_iff.mp hj).1
 have:=mF hE hk (j:=1+j) (by rw[cv];omega)
 rw[show (ar (ls.take k)).length+1+j=(ar (ls.take k)).length+(1+j) by omega,this,Nat.add_comm 1 j]
 show (l.ws.map i8)[j]? =_
 rw[List.getElem?_map,hj]
 rfl
theorem Lds.whs{R:List Str}{ls:List Ld}(h:Lds R ls){k:Nat}{l:Ld}(hk:ls[k]? =some l):Whs R ((ar (ls.take k)).length+1) l.ws:=by
 have ok:=h.ok.ok l (List.mem_of_getElem? hk)
 exact⟨h.rw,ok.w,ok.w8,ok.g,fun j w hj=>jU (h.row hk hj) (iw (ok.w w (List.mem_of_getElem? hj)))⟩
theorem yx{l:Ld}:df (hws l) [loadS,wheelS]=true:=decide_eq_true (show loadS∈[loadS,wheelS] from List.mem_cons_self)
theorem uZ{l:Ld}:df (hws l) [wheelS]=false:=decide_eq_false (show loadS∉[wheelS] from fun q=>DX (List.mem_singleton.mp q).symm)
theorem A8{R:List Str}{first:Int}{ls:List Ld}(h:Lds R ls)(hs:ls≠[]→df (aY R (ar ls).length) [wheelS]=false){m:Nat}:∀{k:Nat},k≤ls.length→∃o4 o5,whR cL rL bL (m+k) (eL R first [] 0 none none)=whR cL rL bL m (eL R first (ls.take k) (ar (ls.take k)).length o4 o5)
 |0,_=>⟨none,none,rfl⟩
 |k+1,hk=>by
  obtain⟨o4,o5,ih⟩:=A8 h hs (m:=m+1) (k:=k) (by omega)
  obtain⟨l,hlk⟩:∃l,ls[k]? =some l:=⟨_,List.getElem?_eq_getElem (show k<ls.length by omega)⟩
  have ok:=h.ok.ok l (List.mem_of_getElem? hlk)
  have hd:=h.hd hlk
  have hw:=h.whs hlk
  have w1:=ok.w1
  have et:ls.take (k+1)=ls.take k++[l]:=by rw[List.take_succ,hlk];rfl
  have hstop:df (aY R ((ar (ls.take k)).length+1+l.ws.length)) [wheelS]=false:=by
   rw[←kE hlk]
   by_cases hlast:k+1=ls.length
   · rw[hlast,List.take_of_length_le (Nat.le_refl _)]
     exact hs fun q=>by rw[q] at hk;exact absurd hk (by simp)
   · obtain⟨l2,hl2⟩:∃l2,ls[k+1]? =some l2:=⟨_,List.getElem?_eq_getElem (show k+1<ls.length by omega)⟩
     rw[(h.hd hl2).at_]
     exact uZ
  refine⟨some (hdD l),some (.lst (l.ws.map Wh.t)), ?_⟩
  rw[show m+(k+1)=(m+1)+k by omega,ih,kE hlk,et]
  refine A3 ?_ ?_ ?_
  · rw[yw h.rw,hd.at_,yx]
  · rw[D0 hd]
    exact Ag hw (fun q=>by rw[q] at w1;exact absurd w1 (by decide)) hstop
  · exact D1 hd (yo (p0:=(ar (ls.take k)).length+1) h.rw.len hw.ok w1 hw.h8 hw.g (fun j w hj=>h.row hlk hj) hstop)
theorem A9{R:List Str}{first:Int}{ls:List Ld}(h:Lds R ls)(hs:ls≠[]→df (aY R (ar ls).length) [wheelS]=false):∃o4 o5,cb [.lst (R.map .str), .int first]=whR cL rL bL (1000000-ls.length) (eL R first ls (ar ls).length o4 o5):=by
 have h6:=h.h6
 obtain⟨o4,o5,hg⟩:=A8 (first:=first) h hs (m:=1000000-ls.length) (k:=ls.length) (Nat.le_refl _)
 rw[List.take_of_length_le (Nat.le_refl _),Nat.sub_add_cancel (by omega)] at hg
 refine⟨o4,o5, ?_⟩
 rw[cb,am,←hg]
 show eQ [some (.lst (R.map .str)),some (.int first),none,none,none,none]=_
 unfold eQ
 refine(hU (e1:=[some (.lst (R.map .str)),some (.int first),some (.lst []),none,none,none]) ?_).trans ?_
 · skip
   k_search(List.map_nil)
 refine(hU (e1:=eL R first [] 0 none none) ?_).trans ?_
 · unfold eL
   k_search(List.map_nil)
   rfl
 · rfl
theorem D2{R:List Str}{first:Int}{ls:List Ld}{ms:List Str}(h:Lds R ls)(hb:df (aY R (ar ls).length) [loadS,wheelS]=true)(hs:ls≠[]→df (aY R (ar ls).length) [wheelS]=false)(hx:i9 (aY R (ar ls).length) (ls.map Ld.name)=some ms):cb [.lst (R.map .str), .int first]=some (oQ (first+((ar ls).length:Int)) ms):=by
 have h6:=h.h6
 obtain⟨o4,o5,e⟩:=A9 (first:=first) h hs
 rw[e,show 1000000-ls.length=(999999-ls.length)+1 by omega]
 exact yq (by rw[yw h.rw,hb]) (Er h.rw (by omega) hx)
theorem D3{R:List Str}{first:Int}{ls:List Ld}{l:Ld}{ms:List Str}(h:Lds R ls)(hd:Hd R (ar ls).length ls l)(hw:Whs R ((ar ls).length+1) l.ws)(hb:l.ws=[]∨df (aY R ((ar ls).length+1+l.ws.length)) [wheelS]=true)(hx:dY (aY R ((ar ls).length+1+l.ws.length)) l.ws=some ms):cb [.lst (R.map .str), .int first]=some (oQ (first+(((ar ls).length+1+l.ws.length:Nat):Int)) ms):=by
 have h6:=h.h6
 obtain⟨o4,o5,e⟩:=A9 (first:=first) h fun _=>by rw[hd.at_];exact uZ
 rw[e,show 1000000-ls.length=(999999-ls.length)+1 by omega]
 exact yq (by rw[yw h.rw,hd.at_,yx]) (by rw[D0 hd];exact Af hw hb hx)
def SOk(s:Str):Prop:=PyData.canLay0 (.str s)=true
theorem CJ{s:Str}(h:∀c∈Tx.cs s,c<1114112):SOk s:=by
 show (s.cps.all _)=true
 rw[←Array.all_toList,List.all_eq_true]
 intro c hc
 exact decide_eq_true (h c hc)
theorem u0:∀{xs:List Str},(∀x∈xs,SOk x)→∃ys,toPys (xs.map D.str)=some ys∧PyData.canLayAll0 ys=true∧PyData.depthAll ys≤0
 |[],_=>⟨[],rfl,rfl,Nat.le_refl _⟩
 |x::xs,h=>by
  obtain⟨ys,g1,g2,g3⟩:=u0 (xs:=xs) fun z hz=>h z (List.mem_cons_of_mem _ hz)
  refine⟨.str x::ys,by show (gW (.str x)).bind (fun y=>(toPys (xs.map D.str)).map (y:: ·))=_;rw[g1];rfl, ?_, ?_⟩
  · show (PyData.canLay0 (.str x)&&PyData.canLayAll0 ys)=true
    rw[show PyData.canLay0 (.str x)=true from h x List.mem_cons_self,g2]
    rfl
  · show max (PyData.depth (.str x)) (PyData.depthAll ys)≤0
    exact Nat.max_le.mpr ⟨Nat.le_refl _,g3⟩
theorem tK{c:Nat}(h:Tx.low c=true):c<128:=by
 unfold Tx.low at h
 rw[Bool.and_eq_true,decide_eq_true_iff,decide_eq_true_iff] at h
 omega
theorem qL{n:Int}(h0:0≤n):∀c∈Tx.cs (ts n),c<128:=fun c hc=>by
 rw[Tx.cs_nn h0] at hc
 have:=Tx.digs_in hc
 omega
theorem Ah{l:Ld}(ok:l.Ok):∀x∈hws l,∀c∈Tx.cs x,c<128:=by
 intro x hx
 simp only[hws,List.mem_cons,List.not_mem_nil,or_false] at hx
 have:=ok.s
 rcases hx with rfl|rfl|rfl
 · rw[show Tx.cs loadS=[108,111,97,100] by boot_fact];decide
 · exact fun c hc=>tK (ok.nm.low c hc)
 · exact qL (by omega)
theorem Ai{w:Wh}(ok:w.Ok):∀x∈wws w,∀c∈Tx.cs x,c<128:=by
 intro x hx
 simp only[wws,List.mem_cons,List.not_mem_nil,or_false] at hx
 have h1:=ok.g
 have h2:=ok.l
 have h3:=ok.h
 rcases hx with rfl|rfl|rfl|rfl
 · rw[show Tx.cs wheelS=[119,104,101,101,108] by boot_fact];decide
 · exact qL (by omega)
 · exact qL (by omega)
 · exact qL (by omega)
theorem Aj{ps:List Str}(h:∀x∈ps,∀c∈Tx.cs x,c<128):∀c∈Tx.cs (Txt.join ⟨#[32]⟩ ps),c<128:=by
 intro c q
 rw[show Txt.join ⟨#[32]⟩ ps=Str.join ⟨#[32]⟩ ps from StrLaws.glued_eq_join _ _] at q
 rcases tI q with q|⟨p,hp,q⟩
 · rw[q];decide
 · exact h p hp c q
structure Txs(rows:List Str):Prop where
 few:rows.length≤200
 len:∀r∈rows,r.length≤1000
 nl:∀r∈rows,10∉Tx.cs r
 lo:∀r∈rows,∀c∈Tx.cs r,c<128
theorem sd:∀{rs:List Str},(∀r∈rs,r.length≤1000)→(rs.map (·.length)).sum≤1000*rs.length
 |[],_=>Nat.le_refl _
 |r::t,h=>by
  have:=sd (rs:=t) fun z hz=>h z (List.mem_cons_of_mem _ hz)
  have:=h r List.mem_cons_self
  rw[List.map_cons,List.sum_cons,List.length_cons]
  omega
theorem Txs.text{rows:List Str}(h:Txs rows):aa d8 (.str (Str.ofString "\n")) [.lst (rows.map .str)]=some (.str (Txt.join ⟨#[10]⟩ rows))∧(Txt.join ⟨#[10]⟩ rows).length≤1000000:=by
 have h1:=h.few
 have h2:=sd h.len
 constructor
 · rw[AX]
   refine tE ?_
   rw[show (⟨#[10]⟩:Str).length=1 from rfl]
   omega
 · rw[show Txt.join ⟨#[10]⟩ rows=Str.join ⟨#[10]⟩ rows from StrLaws.glued_eq_join _ _]
   have:=StrLaws.join_length_le ⟨#[10]⟩ rows
   rw[show (⟨#[10]⟩:Str).length=1 from rfl] at this
   omega
theorem se{c:Nat}:∀{ps:List Str} {x:Str},x∈ps→x.length≤(Str.join ⟨#[c]⟩ ps).length
 |[p],x,h=>by rw[List.mem_singleton.mp h];exact Nat.le_refl _
 |p::q::r,x,h=>by
  rw[←Tx.cs_len (Str.join _ _),hJ,List.length_append,List.length_cons,Tx.cs_len,Tx.cs_len]
  rcases List.mem_cons.mp h with rfl|h
  · omega
  · have:=se (c:=c) h
    omega
theorem Txs.rws{rows:List Str}(h:Txs rows):Rws rows:=⟨fun r hr=>Nat.le_trans (h.len r hr) (by decide),fun i x hx=>by
 unfold aY at hx
 cases e:rows[i]? with
 |none=>rw[e] at hx;cases hx
 |some r=>
  rw[e] at hx
  have:=se (c:=32) hx
  rw[StrLaws.join_split] at this
  have:=h.len r (List.mem_of_getElem? e)
  omega⟩
theorem ol{s:Str}(h:∀c∈Tx.cs s,c<128):SOk s:=CJ fun c hc=>Nat.lt_trans (h c hc) (by decide)
theorem CK{R:List Str}{x:Ex}(h:Txs R)(h2:2≤R.length)(hx:cb [.lst (R.map .str), .int 1]=some x):ir [.str (Txt.join ⟨#[10]⟩ R)]=some x:=by
 have hne:R≠[]:=fun q=>by rw[q] at h2;exact absurd h2 (by decide)
 have hr:=Cw h.text.2
 have hsp:=jR hne h.nl
 rw[hsp] at hr
 have hn:Txt.join ⟨#[10]⟩ R≠Str.ofString "":=fun e=>by
  rw[e,pD (by rw[(Tx.empty_iff _).mp rfl];exact fun q=>by cases q)] at hsp
  rw[←hsp] at h2
  exact absurd h2 (by decide)
 rw[ir,am]
 show gp [some (.str (Txt.join ⟨#[10]⟩ R)),none,none]=_
 unfold gp
 refine(hU (e1:=[some (.str (Txt.join ⟨#[10]⟩ R)),none,none]) ?_).trans ?_
 · skip
   k_search(decide_eq_false hn)
 refine(hU (e1:=[some (.str (Txt.join ⟨#[10]⟩ R)),some (.lst (R.map .str)),none]) ?_).trans ?_
 · skip
   k_search(hr)
 refine kD ?_
 k_search(i4,hx)
theorem CL{k:Str}{n:Int}(h:SOk k):aa neD (.tup [.str k, .int n]) (.tup [.str k, .int n])=some (.bl false):=by
 have e:gW (.tup [.str k, .int n])=some (.tuple [.str k, .int n]):=rfl
 have h2:PyData.canLay0 (.tuple [.str k, .int n])=true:=by
  show (PyData.canLay0 (.str k)&&(PyData.canLay0 (.int n)&&true))=true
  rw[show PyData.canLay0 (.str k)=true from h]
  rfl
 have s:SeqAt.shaped (.tuple [.str k, .int n])=true:=by
  unfold SeqAt.shaped
  rw[h2,decide_eq_true (show (PyData.tuple [.str k, .int n]).depth≤64 by simp[PyData.depth,PyData.depthAll])]
  rfl
 rw[am]
 show (eqX (.tup [.str k, .int n]) (.tup [.str k, .int n])).map _=_
 unfold eqX
 rw[e,ba,ba,if_pos ⟨s,s⟩,PySem.SeqAt.eqv_refl _ h2]
 rfl
theorem yy{xs:List Str}(h:∀x∈xs,SOk x):aa eqD (.lst (xs.map .str)) (.lst (xs.map .str))=some (.bl true):=by
 obtain⟨ys,h1,h2,h3⟩:=u0 h
 rw[am]
 show (eqX (.lst (xs.map .str)) (.lst (xs.map .str))).map _=_
 have e:gW (.lst (xs.map D.str))=some (.list ys):=by rw[gW,h1];rfl
 have s:SeqAt.shaped (.list ys)=true:=by
  unfold SeqAt.shaped
  rw[show PyData.canLay0 (.list ys)=true from h2,decide_eq_true (show (PyData.list ys).depth≤64 from Nat.le_trans (Nat.succ_le_succ h3) (by decide))]
  rfl
 unfold eqX
 rw[e,ba,ba,if_pos ⟨s,s⟩,PySem.SeqAt.eqv_refl (.list ys) h2]
 rfl
theorem yz{ms:List Str}{k:Str}(h:jO ms=some k):SOk k:=by
 unfold jO at h
 split at h
 · cases h;exact ol (by boot_fact)
 split at h
 · cases h;exact ol (by boot_fact)
 split at h
 · cases h;exact ol (by boot_fact)
 · cases h
theorem u3{ms:List Str}{k:Str}{n:Int}(h:jO ms=some k):tD (oQ n ms)=some (.tup [.str k, .int n]):=by
 unfold tD oQ
 dsimp only
 rw[h]
 rfl
def Ref(R:List Str)(n:Nat)(ms:List Str):Prop:=∀first:Int,cb [.lst (R.map .str), .int first]=some (oQ (first+(n:Int)) ms)
theorem mG{R:List Str}{n:Nat}{ms:List Str}{k:Str}{first:Int}(h:Txs R)(h2:2≤R.length)(hk:jO ms=some k)(hr:Ref R n ms)(hf:1≤first):db [.lst (R.map .str), .str k, .int (n:Int), .int first]=some (.bl true):=by
 have so:∀x∈R,SOk x:=fun x hx=>ol (h.lo x hx)
 have e2:=yy so
 have e1:=fun m:Int=>CL (n:=m) (yz hk)
 have r0:cF [.lst (R.map .str), .int 0]=some (.tup [.str k, .int ((n:Int)+1)]):=by
  rw[cF,am]
  show (if(0:Int)=0 then _ else _)=_
  rw[if_pos rfl,h.text.1,ba,CK h h2 (hr 1),ba,u3 hk,Int.add_comm]
 have r1:cF [.lst (R.map .str), .int first]=some (.tup [.str k, .int ((n:Int)+first)]):=by
  rw[cF,am]
  show (if first=0 then _ else _)=_
  rw[if_neg (by omega),hr first,ba,u3 hk,Int.add_comm]
 rw[db,am]
 refine dH ?_
 show fJ [some (.lst (R.map .str)),some (.str k),some (.int (n:Int)),some (.int first),none]=_
 unfold fJ
 ktf_call(tF)
 ktf_call(r0,r1,e1)
 k_search(e2)
def bv(ws:List Str):Str:=Txt.join ⟨#[32]⟩ ws
def wxB(x:Str):Bool:=decide (x.length≤100)&&(Tx.cs x).all fun c=>decide (c≠32)&&(decide (c≠10)&&decide (c<128))
structure Wx(x:Str):Prop where
 len:x.length≤100
 ch:∀c∈Tx.cs x,c≠32∧c≠10∧c<128
theorem gO{x:Str}(h:wxB x=true):Wx x:=by
 unfold wxB at h
 rw[Bool.and_eq_true,decide_eq_true_iff,List.all_eq_true] at h
 refine⟨h.1,fun c hc=> ?_⟩
 have:=h.2 c hc
 rw[Bool.and_eq_true,Bool.and_eq_true,decide_eq_true_iff,decide_eq_true_iff,decide_eq_true_iff] at this
 exact this
theorem vK(x y:Str):(x++y).length=x.length+y.length:=by rw[←Tx.cs_len,cz,List.length_append,Tx.cs_len,Tx.cs_len]
theorem tL{x y:Str}(hx:Wx x)(hy:Wx y)(h:x.length+y.length≤100):Wx (x++y):=⟨by rw[vK];exact h,fun c hc=>by
 rw[cz] at hc
 rcases List.mem_append.mp hc with hc|hc
 · exact hx.ch c hc
 · exact hy.ch c hc⟩
inductive Kd where
 |ld|wh
def Kd.w:Kd→Str
 | .ld=>loadS
 | .wh=>wheelS
def Kd.bs:Kd→List (Option (Int×Int))
 | .ld=>[none,none,some (1,12)]
 | .wh=>none::whB.map some
def Fit:Option (Int×Int)→Str→Prop
 |none,x=>Tx.row Tx.low 12 x=true
 |some b,x=>dI x b≠none
structure Good(k:Kd)(ws:List Str):Prop where
 len:ws.length=k.bs.length
 fit:∀(i:Nat) b x,1≤i→k.bs[i]? =some b→ws[i]? =some x→Fit b x
theorem om:∀{xs:List Str} {bs:List (Int×Int)} {ns:List Int},jA (List.zipWith dI xs bs)=some ns→∀(i:Nat) b x,(bs.map some)[i]? =some b→xs[i]? =some x→Fit b x
 |[],_,_,_,_,_,_,_,hx=>by cases hx
 |_::_,[],_,_,_,_,_,hb,_=>by cases hb
 |y::xs,c::bs,ns,h,i,b,x,hb,hx=>by
  have h:jA (dI y c::List.zipWith dI xs bs)=some ns:=h
  cases e:dI y c with
  |none=>rw[e] at h;cases h
  |some n=>
   rw[e] at h
   have h:(jA (List.zipWith dI xs bs)).map (n:: ·)=some ns:=h
   obtain⟨m,hm,_⟩:=Option.map_eq_some_iff.mp h
   cases i with
   |zero=>
    cases hb;cases hx
    show dI y c≠none
    rw[e]
    exact fun q=>by cases q
   |succ i=>exact om hm i b x hb hx
theorem pK{xs:List Str}{bs:List (Int×Int)}{ns:List Int}(h:n6 xs bs=some ns):xs.length=bs.length∧jA (List.zipWith dI xs bs)=some ns:=by
 unfold n6 at h
 split at h
 · exact⟨by assumption,h⟩
 · cases h
theorem Ak{ws:List Str}{ns:List Int}(h:dX ws wheelS whB=some ns):Good .wh ws:=by
 unfold dX at h
 split at h
 · obtain⟨h1,h2⟩:=pK h
   cases ws with
   |nil=>cases h1
   |cons w r=>
    refine⟨congrArg Nat.succ h1,fun i b x hi hb hx=> ?_⟩
    cases i with
    |zero=>exact absurd hi (by decide)
    |succ i=>exact om h2 i b x hb hx
 · cases h
theorem Al{ws:List Str}{z:Str×List Int}(h:eE ws loadS [(1,12)]=some z):Good .ld ws:=by
 unfold eE at h
 split at h
 · rename_i a n r
   split at h
   · rename_i hc
     obtain⟨ns,hn,_⟩:=Option.map_eq_some_iff.mp h
     obtain⟨h1,h2⟩:=pK hn
     refine⟨congrArg (Nat.succ∘Nat.succ) h1,fun i b x hi hb hx=> ?_⟩
     match i with
     |0=>exact absurd hi (by decide)
     |1=>cases hb;cases hx;exact hc.2
     |i+2=>exact om (bs:=[(1,12)]) h2 i b x hb hx
   · cases h
 · cases h
def Am(k:Kd)(ws:List Str):Prop:=match k with
 | .ld=>eE ws loadS [(1,12)]=none
 | .wh=>∀vs,dY ws vs=some dB
theorem yA{k:Kd}{ws:List Str}(h:¬Good k ws):Am k ws:=by
 cases k with
 |ld=>
  show eE ws loadS [(1,12)]=none
  cases e:eE ws loadS [(1,12)] with
  |none=>rfl
  |some z=>exact absurd (Al e) h
 |wh=>
  intro vs
  unfold dY
  cases e:dX ws wheelS whB with
  |none=>rfl
  |some z=>exact absurd (Ak e) h
theorem on{k:Kd}{ws:List Str}(h:ws.length≠k.bs.length):Am k ws:=yA fun g=>h g.len
theorem yB{k:Kd}{ws:List Str}{i:Nat}{b:Option (Int×Int)}{x:Str}(hi:1≤i)(hb:k.bs[i]? =some b)(hx:ws[i]? =some x)(h:¬Fit b x):Am k ws:=yA fun g=>h (g.fit i b x hi hb hx)
structure Spd(k:Kd)(ws:List Str):Prop where
 wx:∀x∈ws,Wx x
 few:ws.length≤8
 bad:Am k ws
 hd:ws.head?=some k.w
structure Rw(k:Kd)(ws:List Str):Prop where
 wx:∀x∈ws,Wx x∧x.length≤12
 len:ws.length=k.bs.length
 hd:ws.head?=some k.w
theorem tM:∀{ws:List Str},(∀x∈ws,x.length≤100)→(ws.map (·.length)).sum≤100*ws.length
 |[],_=>Nat.le_refl _
 |r::t,h=>by
  have:=tM (ws:=t) fun z hz=>h z (List.mem_cons_of_mem _ hz)
  have:=h r List.mem_cons_self
  rw[List.map_cons,List.sum_cons,List.length_cons]
  omega
theorem mH{ws:List Str}{xs:List D}(e:xs=ws.map .str)(h:∀x∈ws,Wx x)(hl:ws.length≤8):aa d8 (.str (Str.ofString " ")) [.lst xs]=some (.str (bv ws)):=by
 have h2:=tM fun x hx=>(h x hx).len
 rw[e,uK]
 refine tE ?_
 rw[show (⟨#[32]⟩:Str).length=1 from rfl]
 omega
theorem ja{ws:List Str}(h:∀x∈ws,Wx x)(hl:ws.length≤8):(bv ws).length≤810:=by
 have h1:=Aa (ps:=ws)
 have h2:=tM fun x hx=>(h x hx).len
 unfold bv
 omega
theorem qM(ws:List Str):bv ws=Str.join ⟨#[32]⟩ ws:=StrLaws.glued_eq_join _ _
theorem fL{x:Str}{ws:List Str}(h:ws≠[]):Tx.cs (bv (x::ws))=Tx.cs x++32::Tx.cs (bv ws):=by
 cases ws with
 |nil=>exact absurd rfl h
 |cons y r=>rw[qM,qM,hJ]
theorem iA{x:Str}:bv [x]=x:=qM [x]
theorem lp:∀{ps qs:List Str},ps≠[]→qs≠[]→Tx.cs (bv (ps++qs))=Tx.cs (bv ps)++32::Tx.cs (bv qs)
 |[],_,h,_=>absurd rfl h
 |[p],qs,_,hq=>by
  show Tx.cs (bv (p::qs))=_
  rw[fL hq,iA]
 |p::p'::r,qs,_,hq=>by
  show Tx.cs (bv (p::(p'::r++qs)))=_
  rw[fL (ws:=p'::r++qs) (by simp),lp (ps:=p'::r) (by simp) hq,fL (ws:=p'::r) (by simp),List.append_assoc]
  rfl
theorem j3{ws zs:List Str}{t:Str}(h:ws≠[])(hz:zs≠[])(e:Tx.cs t=32::Tx.cs (bv zs)):bv ws++t=bv (ws++zs):=Tx.ext (by rw[lp h hz,cz,e])
theorem yC{x:Str}{ws:List Str}(h:ws≠[]):x++Str.ofString "  "++bv ws=bv (x::Str.ofString ""::ws):=Tx.ext (by
 rw[fL (by simp),fL h,cz,cz,show Tx.cs (Str.ofString "  ")=[32,32] by boot_fact,show Tx.cs (Str.ofString "")=[] by boot_fact,List.append_assoc];rfl)
theorem oo{ws:List Str}{x t:Str}:bv (ws++[x])++t=bv (ws++[x++t]):=by
 cases ws with
 |nil=>show bv [x]++t=bv [x++t];rw[iA,iA]
 |cons w r=>exact Tx.ext (by rw[cz,lp (by simp) (by simp),lp (by simp) (by simp),iA,iA,cz,List.append_assoc];rfl)
theorem e9{ws:List Str}(h:∀x∈ws,Wx x)(hne:ws≠[]):Txt.split (bv ws) ⟨#[32]⟩=ws:=jR hne fun p hp q=>((h p hp).ch 32 q).1 rfl
theorem Ba{l:Ld}(ok:l.Ok):Rw .ld (hws l):=⟨fun x hx=>⟨⟨Nat.le_trans (qK ok x hx) (by decide),fun c hc=>⟨fun e=>oa ok (c:=32) (by decide) x hx (e▸hc),fun e=>oa ok (c:=10) (by decide) x hx (e▸hc),Ah ok x hx c hc⟩⟩,qK ok x hx⟩,rfl,rfl⟩
theorem yD{w:Wh}(ok:w.Ok):Rw .wh (wws w):=⟨fun x hx=>⟨⟨Nat.le_trans (mE ok x hx) (by decide),fun c hc=>⟨fun e=>og ok (c:=32) (by decide) x hx (e▸hc),fun e=>og ok (c:=10) (by decide) x hx (e▸hc),Ai ok x hx c hc⟩⟩,mE ok x hx⟩,rfl,rfl⟩
def bnL(b:Int×Int):List Str:=[Str.ofString "0"++ts b.2,Str.ofString "-1",Str.ofString "",Str.ofString "x",Str.ofString "1.0",ts b.2++Str.ofString "0",Txt.mul (Str.ofString "9") 61,Str.ofString "+1",ts (b.2+1),ts (b.2+7)]
def bnM(b:Int×Int):List Str:=if 0<b.1 then bnL b++[ts (b.1-1),Str.ofString "00"] else bnL b
def bnB(b:Int×Int)(x:Str):Bool:=(dI x b).isNone&&wxB x
def allB:List (Int×Int):=[(1,12),(1,100),(0,1000000)]
theorem CM:(allB.all fun b=>(bnM b).all (bnB b))=true:=by boot_fact
theorem ml{xs:List Str}{d:Int}{Pv:Str→Prop}(h0:0≤d)(hl:0<xs.length)(h:∀x∈xs,Pv x):∃x,atI (xs.map D.str) (d%(xs.length:Int))=some (.str x)∧Pv x:=by
 have h1:=Int.emod_nonneg d (show (xs.length:Int)≠0 by omega)
 have h2:=Int.emod_lt_of_pos d (show 0<(xs.length:Int) by omega)
 have hk:(d%(xs.length:Int)).toNat<xs.length:=by omega
 exact⟨xs[(d%(xs.length:Int)).toNat],bV (n:=(d%(xs.length:Int)).toNat) (by omega) (by rw[List.getElem?_map,List.getElem?_eq_getElem hk];rfl),h _ (List.getElem_mem hk)⟩
theorem yE{b:Int×Int}{d:Int}(hd:0≤d)(hb:b∈allB):∃x,bn [.int d, .int b.1, .int b.2]=some (.str x)∧dI x b=none∧Wx x:=by
 have hP:∀x∈bnM b,dI x b=none∧Wx x:=fun x hx=>by
  have:=List.all_eq_true.mp (List.all_eq_true.mp CM b hb) x hx
  unfold bnB at this
  rw[Bool.and_eq_true,Option.isNone_iff_eq_none] at this
  exact⟨this.1,gO this.2⟩
 have hr:0≤b.1∧b.1≤1∧12≤b.2∧b.2≤10000000:=by
  unfold allB at hb
  simp only[List.mem_cons,List.not_mem_nil,or_false] at hb
  rcases hb with rfl|rfl|rfl<;>decide
 obtain⟨r1,r2,r3,r4⟩:=hr
 obtain⟨x,hx,hp⟩:=ml (d:=d) (xs:=bnM b) hd (by unfold bnM bnL;split<;>simp) hP
 refine⟨x, ?_,hp⟩
 have s1:=n9 (i:=b.2) (by omega) (by omega)
 have s2:=n9 (i:=b.2+1) (by omega) (by omega)
 have s3:=n9 (i:=b.2+7) (by omega) (by omega)
 have l1:=kC (n:=b.2) (by omega) (by omega)
 have a1:aa aA (.str (Str.ofString "0")) (.str (ts b.2))=some (.str (Str.ofString "0"++ts b.2)):=dq (by rw[show (Str.ofString "0").length=1 by boot_fact];omega)
 have a2:aa aA (.str (ts b.2)) (.str (Str.ofString "0"))=some (.str (ts b.2++Str.ofString "0")):=dq (by rw[show (Str.ofString "0").length=1 by boot_fact];omega)
 have m1:aa i3 (.str (Str.ofString "9")) (.int 61)=some (.str (Txt.mul (Str.ofString "9") 61)):=qH (by boot_fact)
 rw[bn,am]
 refine dH ?_
 show cJ [some (.int d),some (.int b.1),some (.int b.2),none]=_
 unfold cJ
 refine(ck (e1:=[some (.int d),some (.int b.1),some (.int b.2),some (.lst ((bnL b).map .str))]) ?_).trans ?_
 · unfold bnL
   k_search(s1,s2,s3,a1,a2,m1)
   rfl
 have hl:((bnL b).map D.str).length=10:=rfl
 refine(ck (e1:=[some (.int d),some (.int b.1),some (.int b.2),some (.lst ((bnM b).map .str))]) ?_).trans ?_
 · unfold bnM
   by_cases h:0<b.1
   · rw[if_pos h,List.map_append]
     have s4:=n9 (i:=b.1-1) (by omega) (by omega)
     have a3:=ix (a:=(bnL b).map .str) (b:=[.str (ts (b.1-1)), .str (Str.ofString "00")]) (by rw[hl];show 10+2≤1000000;decide)
     k_search(decide_eq_true h,s4,a3)
     rfl
   · rw[if_neg h]
     k_search(decide_eq_false h)
 have hpos:0<((bnM b).length:Int):=by unfold bnM bnL;split<;>simp
 k_search(bp,hx)
theorem gB{F G:SF}{e:PD.Env}{d:D}(h:F e=some (.rt d)):aE F G e=some (.rt d):=by unfold aE;rw[h];rfl
theorem lT{α:Type}{f:α→D}{xs:List α}{k:Nat}:aa cO (.lst (xs.map f)) none (some (k:Int))=some (.lst ((xs.take k).map f)):=by
 rw[am]
 show some (D.lst (lJ _ _ _))=_
 unfold lJ
 rw[HT.sIx_nat,List.length_map]
 show some (D.lst (((xs.map f).drop 0).take (min k xs.length-0)))=_
 rw[List.drop_zero,Nat.sub_zero,List.map_take]
 congr 2
 by_cases h:k≤xs.length
 · rw[Nat.min_eq_left h]
 · rw[Nat.min_eq_right (by omega),List.take_of_length_le (by rw[List.length_map];omega),List.take_of_length_le (by rw[List.length_map];omega)]
theorem An{x:Str}{b:Int×Int}(h:9∈Tx.cs x):dI x b=none:=by
 unfold dI
 rw[Tx.num_none]
 · rfl
 · unfold Tx.row
   rw[show (Tx.cs x).all Tx.dig=false from List.all_eq_false.mpr ⟨9,h,by decide⟩,Bool.and_false]
theorem qN(k:Kd):3≤k.bs.length∧k.bs.length≤4:=by cases k<;>decide
theorem Ao(k:Kd):∃b,k.bs[k.bs.length-1]? =some (some b):=by cases k<;>exact⟨_,rfl⟩
theorem lU{ws zs:List Str}{k:Str}(h:ws.head?=some k):(ws++zs).head?=some k:=by
 cases ws with
 |nil=>cases h
 |cons w r=>exact h
theorem D4:Wx (Str.ofString "\t"):=gO (by boot_fact)
theorem D5:Wx (Str.ofString ""):=gO (by boot_fact)
theorem oq{k:Kd}{W:List Str}{x:Str}(h:Rw k W)(hx:Wx x):Spd k (W++[x]):=by
 have hb:=qN k
 have hl:=h.len
 refine⟨fun z hz=> ?_,by rw[List.length_append,List.length_singleton];omega,on (by rw[List.length_append,List.length_singleton];omega),lU h.hd⟩
 rcases List.mem_append.mp hz with hz|hz
 · exact(h.wx z hz).1
 · rw[List.mem_singleton.mp hz];exact hx
theorem Et{k:Kd}{W Q:List Str}{y z:Str}(h:Rw k W)(e:W=Q++[y]++[z]):∀x∈[bv W++Str.ofString " 1",bv W++Str.ofString " x",bv W++Str.ofString " ",bv W++Str.ofString "\t",bv (Q++[y])++Str.ofString "\t"++z],∃ws',x=bv ws'∧Spd k ws':=by
 have hb:=qN k
 have hl:=h.len
 have lQ:Q.length+2=W.length:=by rw[e,List.length_append,List.length_append];rfl
 have wz:=h.wx z (by rw[e];exact List.mem_append_right _ List.mem_cons_self)
 have wy:=h.wx y (by rw[e];exact List.mem_append_left _ (List.mem_append_right _ List.mem_cons_self))
 have wQ:∀x∈Q,Wx x:=fun x hx=>(h.wx x (by rw[e];exact List.mem_append_left _ (List.mem_append_left _ hx))).1
 have lt:(Str.ofString "\t").length=1:=by boot_fact
 have nW:W≠[]:=fun q=>by rw[q] at lQ;exact absurd lQ (by simp)
 have hQ:Q.head?=some k.w:=by
  have:=h.hd
  cases Q with
  |nil=>exact absurd lQ (by show ¬0+2=_;omega)
  |cons q Q=>rw[e] at this;exact this
 intro x hx
 simp only[List.mem_cons,List.not_mem_nil,or_false] at hx
 rcases hx with rfl|rfl|rfl|rfl|rfl
 · exact⟨_,j3 (zs:=[Str.ofString "1"]) nW (by simp) (by boot_fact),oq h (gO (by boot_fact))⟩
 · exact⟨_,j3 (zs:=[Str.ofString "x"]) nW (by simp) (by boot_fact),oq h (gO (by boot_fact))⟩
 · exact⟨_,j3 (zs:=[Str.ofString ""]) nW (by simp) (by boot_fact),oq h D5⟩
 · obtain⟨b,hbl⟩:=Ao k
   refine⟨(Q++[y])++[z++Str.ofString "\t"],by rw[e];exact oo,fun x hx=> ?_,by simp;omega,yB (i:=k.bs.length-1) (b:=some b) (x:=z++Str.ofString "\t") (by omega) hbl ?_ ?_,lU (lU hQ)⟩
   · rcases List.mem_append.mp hx with hx|hx
     · rcases List.mem_append.mp hx with hx|hx
       · exact wQ x hx
       · rw[List.mem_singleton.mp hx];exact wy.1
     · rw[List.mem_singleton.mp hx]
       exact tL wz.1 D4 (by omega)
   · rw[List.getElem?_append_right (by simp;omega),show k.bs.length-1-(Q++[y]).length=0 by simp;omega]
     rfl
   · intro f
     exact f (An (by rw[cz,show Tx.cs (Str.ofString "\t")=[9] by boot_fact];exact List.mem_append_right _ List.mem_cons_self))
 · refine⟨Q++[y++Str.ofString "\t"++z],by rw[oo,oo],fun x hx=> ?_,by simp;omega,on (by simp;omega),lU hQ⟩
   rcases List.mem_append.mp hx with hx|hx
   · exact wQ x hx
   · rw[List.mem_singleton.mp hx]
     exact tL (tL wy.1 D4 (by omega)) wz.1 (by rw[vK];omega)
theorem Ap{k:Kd}{W:List Str}{i:Nat}{b:Option (Int×Int)}{x:Str}(h:Rw k W)(h1:1≤i)(hi:k.bs[i]? =some b)(hx:Wx x)(hb:¬Fit b x):Spd k (W.take i++[x]++W.drop (i+1)):=by
 have hl:=h.len
 have hn:=qN k
 have lt:=(List.getElem?_eq_some_iff.mp hi).1
 have ht:(W.take i).length=i:=by rw[List.length_take];omega
 refine⟨fun z hz=> ?_, ?_,yB (i:=i) (b:=b) (x:=x) h1 hi ?_ hb, ?_⟩
 · rcases List.mem_append.mp hz with hz|hz
   · rcases List.mem_append.mp hz with hz|hz
     · exact(h.wx z (List.mem_of_mem_take hz)).1
     · rw[List.mem_singleton.mp hz];exact hx
   · exact(h.wx z (List.mem_of_mem_drop hz)).1
 · rw[List.length_append,List.length_append,ht,List.length_drop,List.length_singleton];omega
 · rw[List.append_assoc,List.getElem?_append_right (by omega),ht,Nat.sub_self]
   rfl
 · refine lU (lU ?_)
   obtain⟨j,rfl⟩:∃j,i=j+1:=⟨i-1,by omega⟩
   have:=h.hd
   cases W with
   |nil=>cases this
   |cons w r=>exact this
theorem Aq{g a b:Str}{p q:Int}(hg:Wx g)(ha:Wx a)(hb:Wx b)(h1:dI a (0,1000000)=some p)(h2:dI b (0,1000000)=some q)(hq:q<p):Spd .wh [wheelS,g,a,b]:=by
 refine⟨fun z hz=> ?_,by show 4≤8;decide,fun vs=> ?_,rfl⟩
 · simp only[List.mem_cons,List.not_mem_nil,or_false] at hz
   rcases hz with rfl|rfl|rfl|rfl
   · exact gO (by boot_fact)
   · exact hg
   · exact ha
   · exact hb
 · unfold dY
   have e:dX [wheelS,g,a,b] wheelS whB=jA [dI g (1,100),dI a (0,1000000),dI b (0,1000000)]:=by
    unfold dX
    rw[if_pos (show df [wheelS,g,a,b] [wheelS]=true from decide_eq_true (show wheelS∈[wheelS] from List.mem_singleton.mpr rfl))]
    rfl
   rw[e,h1,h2]
   cases dI g (1,100) with
   |none=>rfl
   |some n=>exact if_pos hq
def bnames:List Str:=[Str.ofString "A",Str.ofString "abcdefghijklm",Str.ofString "",Str.ofString "a1",Str.ofString "a-b",Str.ofString "1",Str.ofString "zz_"]
theorem Eu{d:Int}(hd:0≤d):∃x,atI [D.str (Str.ofString "A"), .str (Str.ofString "abcdefghijklm"), .str (Str.ofString ""), .str (Str.ofString "a1"), .str (Str.ofString "a-b"), .str (Str.ofString "1"), .str (Str.ofString "zz_")] (d%7)=some (.str x)∧Tx.row Tx.low 12 x=false∧Wx x:=
 ml (d:=d) (xs:=bnames) hd (by decide) fun x hx=>by
  have:=List.all_eq_true.mp (show (bnames.all fun x=> !Tx.row Tx.low 12 x&&wxB x)=true by boot_fact) x hx
  rw[Bool.and_eq_true,Bool.not_eq_true'] at this
  exact⟨this.1,gO this.2⟩
theorem u4(b:Bool):aa jI [.bl b]=some (.int (if b then 1 else 0)):=by rw[am];rfl
theorem bx{c:BF}{A G:SF}{e:PD.Env}(h:c e=some false):aE (ifS c A nxS) G e=G e:=ck (by unfold ifS;rw[h];rfl)
noncomputable def fmA:SF:=(aE (ifS (bD (oD (aa eqD) (oD (aa bB) (vD 1) (cD (.int 8))) (cD (.int 0)))) (aE (aU 4 (mk Fj (oD (aa aA) (oD (aa aA) (mtD (aa d8) (cD (.str (Str.ofString " "))) (ae (slD (aa cO) (vD 2) noO (atO (oD (aa gH) (ap (aa bR) (ae (vD 2) ao)) (cD (.int 1))))) ao)) (cD (.str (Str.ofString "\t")))) (oD (aa ixD) (vD 2) (oD (aa gH) (ap (aa bR) (ae (vD 2) ao)) (cD (.int 1)))))))
 (bq (oD (aa ixD) (bF (ae (oD (aa aA) (vD 0) (cD (.str (Str.ofString " 1")))) (ae (oD (aa aA) (vD 0) (cD (.str (Str.ofString " x")))) (ae (oD (aa aA) (vD 0) (cD (.str (Str.ofString " ")))) (ae (oD (aa aA) (vD 0) (cD (.str (Str.ofString "\t")))) (ae (vD 4) ao)))))) (oD (aa bB) (vD 3) (cD (.int 5))))))
 nxS)
 (aE (ifS (bD (oD (aa eqD) (oD (aa bB) (vD 1) (cD (.int 8))) (cD (.int 1)))) (bq (mtD (aa d8) (cD (.str (Str.ofString " "))) (ae (slD (aa cO) (vD 2) noO (atO (oD (aa gH) (ap (aa bR) (ae (vD 2) ao)) (cD (.int 1))))) ao)))
 nxS)
 (aE (ifS (bD (oD (aa eqD) (oD (aa bB) (vD 1) (cD (.int 8))) (cD (.int 2)))) (bq (oD (aa aA) (oD (aa aA) (oD (aa ixD) (vD 2) (cD (.int 0))) (cD (.str (Str.ofString "  ")))) (mtD (aa d8) (cD (.str (Str.ofString " "))) (ae (slD (aa cO) (vD 2) (atO (cD (.int 1))) noO) ao))))
 nxS)
 (aE (ifS (kK (bD (oD (aa eqD) (oD (aa ixD) (vD 2) (cD (.int 0))) (cD (.str (Str.ofString "wheel"))))) (bD (oD (aa eqD) (oD (aa bB) (vD 1) (cD (.int 8))) (cD (.int 3))))) (bq (oD (aa aA) (mtD (aa d8) (cD (.str (Str.ofString " "))) (ae (slD (aa cO) (vD 2) noO (atO (cD (.int 2)))) ao)) (oD (aa ixD) (bF (ae (cD (.str (Str.ofString " 5 4"))) (ae (cD (.str (Str.ofString " 1000000 0"))) (ae (cD (.str (Str.ofString " 1 0"))) ao)))) (oD (aa bB) (vD 3) (cD (.int 3))))))
 nxS)
 (aE (aU 5 (mk Fj (oD (aa aA) (cD (.int 1)) (oD (aa bB) (vD 3) (oD (aa gH) (ap (aa bR) (ae (vD 2) ao)) (cD (.int 1)))))))
 (aE (aU 6 (mk Fj (oD (aa ixD) (bF (ae (cD (.str (Str.ofString "A"))) (ae (cD (.str (Str.ofString "abcdefghijklm"))) (ae (cD (.str (Str.ofString ""))) (ae (cD (.str (Str.ofString "a1"))) (ae (cD (.str (Str.ofString "a-b"))) (ae (cD (.str (Str.ofString "1"))) (ae (cD (.str (Str.ofString "zz_"))) ao)))))))) (oD (aa bB) (oD (aa bz) (vD 3) (cD (.int 7))) (cD (.int 7))))))
 (aE (ifS (kK (bD (oD (aa eqD) (oD (aa ixD) (vD 2) (cD (.int 0))) (cD (.str (Str.ofString "load"))))) (bD (oD (aa eqD) (vD 5) (cD (.int 2))))) (aU 6 (mk Fj (ap bn (ae (oD (aa bz) (vD 3) (cD (.int 7))) (ae (cD (.int 1)) (ae (cD (.int 12)) ao))))))
 nxS)
 (aE (ifS (bD (oD (aa eqD) (oD (aa ixD) (vD 2) (cD (.int 0))) (cD (.str (Str.ofString "wheel"))))) (aU 6 (mk Fj (ap bn (ae (oD (aa bz) (vD 3) (cD (.int 7))) (ae (ap (aa jI) (ae (oD (aa eqD) (vD 5) (cD (.int 1))) ao)) (ae (oD (aa ixD) (bF (ae (cD (.int 100)) (ae (cD (.int 1000000)) (ae (cD (.int 1000000)) ao)))) (oD (aa gH) (vD 5) (cD (.int 1)))) ao))))))
 nxS)
 (bq (mtD (aa d8) (cD (.str (Str.ofString " "))) (ae (oD (aa aA) (oD (aa aA) (slD (aa cO) (vD 2) noO (atO (vD 5))) (bF (ae (vD 6) ao))) (slD (aa cO) (vD 2) (atO (oD (aa aA) (vD 5) (cD (.int 1)))) noO)) ao)))))))))))
noncomputable def fmB:SF:=(aE (aU 5 (mk Fj (oD (aa aA) (cD (.int 1)) (oD (aa bB) (vD 3) (oD (aa gH) (ap (aa bR) (ae (vD 2) ao)) (cD (.int 1)))))))
 (aE (aU 6 (mk Fj (oD (aa ixD) (bF (ae (cD (.str (Str.ofString "A"))) (ae (cD (.str (Str.ofString "abcdefghijklm"))) (ae (cD (.str (Str.ofString ""))) (ae (cD (.str (Str.ofString "a1"))) (ae (cD (.str (Str.ofString "a-b"))) (ae (cD (.str (Str.ofString "1"))) (ae (cD (.str (Str.ofString "zz_"))) ao)))))))) (oD (aa bB) (oD (aa bz) (vD 3) (cD (.int 7))) (cD (.int 7))))))
 (aE (ifS (kK (bD (oD (aa eqD) (oD (aa ixD) (vD 2) (cD (.int 0))) (cD (.str (Str.ofString "load"))))) (bD (oD (aa eqD) (vD 5) (cD (.int 2))))) (aU 6 (mk Fj (ap bn (ae (oD (aa bz) (vD 3) (cD (.int 7))) (ae (cD (.int 1)) (ae (cD (.int 12)) ao))))))
 nxS)
 (aE (ifS (bD (oD (aa eqD) (oD (aa ixD) (vD 2) (cD (.int 0))) (cD (.str (Str.ofString "wheel"))))) (aU 6 (mk Fj (ap bn (ae (oD (aa bz) (vD 3) (cD (.int 7))) (ae (ap (aa jI) (ae (oD (aa eqD) (vD 5) (cD (.int 1))) ao)) (ae (oD (aa ixD) (bF (ae (cD (.int 100)) (ae (cD (.int 1000000)) (ae (cD (.int 1000000)) ao)))) (oD (aa gH) (vD 5) (cD (.int 1)))) ao))))))
 nxS)
 (bq (mtD (aa d8) (cD (.str (Str.ofString " "))) (ae (oD (aa aA) (oD (aa aA) (slD (aa cO) (vD 2) noO (atO (vD 5))) (bF (ae (vD 6) ao))) (slD (aa cO) (vD 2) (atO (oD (aa aA) (vD 5) (cD (.int 1)))) noO)) ao)))))))
theorem yF{k:Kd}{W:List Str}(h:Rw k W){d:Int}(hd:0≤d):∃ws',gr [.str (bv W), .int d]=some (.str (bv ws'))∧Spd k ws':=by
 have hb:=qN k
 have hl:=h.len
 have wx:∀x∈W,Wx x:=fun x hx=>(h.wx x hx).1
 obtain⟨r,er⟩:∃r,W=k.w::r:=by
  have:=h.hd
  cases W with
  |nil=>cases this
  |cons w r=>exact⟨r,by rw[Option.some.inj this]⟩
 have lr:r.length+1=W.length:=by rw[er];rfl
 obtain⟨Q,y,z,e⟩:∃Q y z,W=Q++[y]++[z]:=by
  have q:3≤W.length∧W.length≤4:=by omega
  clear er lr h wx hl
  match W,q with
  |[a,b,c],_=>exact⟨[a],b,c,rfl⟩
  |[a,b,c,d],_=>exact⟨[a,b],c,d,rfl⟩
  |[],q=>exact absurd q.1 (by decide)
  |[_],q=>exact absurd q.1 (by show ¬3≤1;decide)
  |[_,_],q=>exact absurd q.1 (by show ¬3≤2;decide)
  |_::_::_::_::_::r,q=>exact absurd q.2 (by show ¬r.length+5≤4;omega)
 have tb:=Et h e
 obtain⟨P,hP⟩:∃P,P=Q++[y]:=⟨_,rfl⟩
 rw[←hP] at e tb
 have lP:P.length+1=W.length:=by rw[e,List.length_append];rfl
 have wP:∀x∈P,Wx x:=fun x hx=>wx x (by rw[e];exact List.mem_append_left _ hx)
 have nr:r≠[]:=fun q=>by rw[q] at lr;have:1=W.length:=lr;omega
 have nP:P≠[]:=fun q=>by rw[q] at lP;have:1=W.length:=lP;omega
 have hs:aa jH (.str (bv W)) [.str (Str.ofString " ")]=some (.lst (W.map .str)):=by
  rw[uK,qC (Nat.le_trans (ja wx (by omega)) (by decide)),e9 wx (by rw[er];simp)]
 have hn1:(W.length:Int)-1=(P.length:Int):=by omega
 have cP:aa cO (.lst (W.map D.str)) none (some (P.length:Int))=some (.lst (P.map .str)):=by
  rw[lT,e,List.take_left' rfl]
 have jP:=mH (ws:=P) rfl wP (by omega)
 have iz:atI (W.map D.str) (P.length:Int)=some (.str z):=bV (n:=P.length) rfl (by rw[List.getElem?_map,e,List.getElem?_append_right (Nat.le_refl _),Nat.sub_self];rfl)
 have i0:atI (W.map D.str) 0=some (.str k.w):=by rw[er];exact ix0
 have jl:=ja wx (by omega)
 have pl:=ja wP (by omega)
 have zl:=(h.wx z (by rw[e];exact List.mem_append_right _ List.mem_cons_self)).2
 have hdP:P.head?=some k.w:=by
  have:=h.hd
  rw[e] at this
  cases P with
  |nil=>exact absurd rfl nP
  |cons p P=>exact this
 have e1:gq [some (.str (bv W)),some (.int d),none,none,none,none,none]=fmA [some (.str (bv W)),some (.int d),some (.lst (W.map .str)),some (.int (d/8)),none,none,none]:=by
  unfold gq
  refine(ck (e1:=[some (.str (bv W)),some (.int d),some (.lst (W.map .str)),none,none,none,none]) ?_).trans ?_
  · skip
    k_search(hs)
  refine(ck (e1:=[some (.str (bv W)),some (.int d),some (.lst (W.map .str)),some (.int (d/8)),none,none,none]) ?_).trans rfl
  k_search(hs)
 have no:∀m:Int,¬d%8=m→bD (oD (aa eqD) (oD (aa bB) (vD 1) (cD (.int 8))) (cD (.int m))) [some (.str (bv W)),some (.int d),some (.lst (W.map .str)),some (.int (d/8)),none,none,none]=some false:=fun m hm=>by
  k_search(decide_eq_false hm)
 have key:∃ws',fmA [some (.str (bv W)),some (.int d),some (.lst (W.map .str)),some (.int (d/8)),none,none,none]=some (.rt (.str (bv ws')))∧Spd k ws':=by
  by_cases c0:d%8=0
  · obtain⟨x,hx,ws',rfl,sp⟩:=ml (d:=d/8) (by omega) (by simp) tb
    have hx:atI [D.str (bv W++Str.ofString " 1"), .str (bv W++Str.ofString " x"), .str (bv W++Str.ofString " "), .str (bv W++Str.ofString "\t"), .str (bv P++Str.ofString "\t"++z)] (d/8%5)=some (.str (bv ws')):=hx
    refine⟨ws', ?_,sp⟩
    have b1:aa aA (.str (bv W)) (.str (Str.ofString " 1"))=some (.str (bv W++Str.ofString " 1")):=dq (by rw[show (Str.ofString " 1").length=2 by boot_fact];omega)
    have b2:aa aA (.str (bv W)) (.str (Str.ofString " x"))=some (.str (bv W++Str.ofString " x")):=dq (by rw[show (Str.ofString " x").length=2 by boot_fact];omega)
    have b3:aa aA (.str (bv W)) (.str (Str.ofString " "))=some (.str (bv W++Str.ofString " ")):=dq (by rw[show (Str.ofString " ").length=1 by boot_fact];omega)
    have lt:(Str.ofString "\t").length=1:=by boot_fact
    have b4:aa aA (.str (bv W)) (.str (Str.ofString "\t"))=some (.str (bv W++Str.ofString "\t")):=dq (by omega)
    have b5:aa aA (.str (bv P)) (.str (Str.ofString "\t"))=some (.str (bv P++Str.ofString "\t")):=dq (by omega)
    have b6:aa aA (.str (bv P++Str.ofString "\t")) (.str z)=some (.str (bv P++Str.ofString "\t"++z)):=dq (by rw[vK];omega)
    unfold fmA
    refine gB ?_
    k_search(decide_eq_true c0,hn1,cP,jP,bp,iz,b1,b2,b3,b4,b5,b6,hx)
  by_cases c1:d%8=1
  · refine⟨P, ?_,wP,by omega,on (by omega),hdP⟩
    unfold fmA
    refine(bx (no 0 c0)).trans (gB ?_)
    k_search(decide_eq_true c1,hn1,cP,jP)
  by_cases c2:d%8=2
  · have wr:∀x∈r,Wx x:=fun x hx=>wx x (by rw[er];exact List.mem_cons_of_mem _ hx)
    refine⟨k.w::Str.ofString ""::r, ?_,fun x hx=> ?_,by rw[List.length_cons,List.length_cons];omega,on (by rw[List.length_cons,List.length_cons];omega),rfl⟩
    · have c1':aa cO (.lst (W.map D.str)) (some 1) none=some (.lst (r.map .str)):=by
       have:=iJ (f:=D.str) (xs:=W) (k:=1)
       rw[er] at this ⊢
       exact this
      have jr:=mH (ws:=r) rfl wr (by omega)
      have rl:=ja wr (by omega)
      have wl:k.w.length≤5:=by cases k<;>decide+kernel
      have l2:(Str.ofString "  ").length=2:=by boot_fact
      have b1:aa aA (.str k.w) (.str (Str.ofString "  "))=some (.str (k.w++Str.ofString "  ")):=dq (by omega)
      have b2:aa aA (.str (k.w++Str.ofString "  ")) (.str (bv r))=some (.str (bv (k.w::Str.ofString ""::r))):=by
       rw[dq (by rw[vK];omega),yC nr]
      unfold fmA
      refine(bx (no 0 c0)).trans ((bx (no 1 c1)).trans (gB ?_))
      k_search(decide_eq_true c2,bp,i0,c1',jr,b1,b2)
    · rcases List.mem_cons.mp hx with rfl|hx
      · exact wx _ (by rw[er];exact List.mem_cons_self)
      · rcases List.mem_cons.mp hx with rfl|hx
        · exact D5
        · exact wr x hx
  have toB:kK (bD (oD (aa eqD) (oD (aa ixD) (vD 2) (cD (.int 0))) (cD (.str (Str.ofString "wheel"))))) (bD (oD (aa eqD) (oD (aa bB) (vD 1) (cD (.int 8))) (cD (.int 3)))) [some (.str (bv W)),some (.int d),some (.lst (W.map .str)),some (.int (d/8)),none,none,none]=some false→fmA [some (.str (bv W)),some (.int d),some (.lst (W.map .str)),some (.int (d/8)),none,none,none]=fmB [some (.str (bv W)),some (.int d),some (.lst (W.map .str)),some (.int (d/8)),none,none,none]:=fun h3=>by
   unfold fmA
   exact(bx (no 0 c0)).trans ((bx (no 1 c1)).trans ((bx (no 2 c2)).trans (bx h3)))
  obtain⟨xm,hxm,rm,wm⟩:=Eu (d:=d/8/7) (by omega)
  have fin:∀{i:Nat} {b:Option (Int×Int)} {x:Str},1≤i→k.bs[i]? =some b→Wx x→¬Fit b x→Spd k (W.take i++[x]++W.drop (i+1))∧aa cO (.lst (W.map D.str)) none (some (i:Int))=some (.lst ((W.take i).map .str))∧aa cO (.lst (W.map D.str)) (some ((i:Int)+1)) none=some (.lst ((W.drop (i+1)).map .str))∧aa aA (.lst ((W.take i).map .str)) (.lst [.str x])=some (.lst ((W.take i++[x]).map .str))∧aa aA (.lst ((W.take i++[x]).map .str)) (.lst ((W.drop (i+1)).map .str))=some (.lst ((W.take i++[x]++W.drop (i+1)).map .str))∧aa d8 (.str (Str.ofString " ")) [.lst ((W.take i++[x]++W.drop (i+1)).map .str)]=some (.str (bv (W.take i++[x]++W.drop (i+1)))):=fun {i b x} h1 hi hx hf=>by
   have sp:=Ap h h1 hi hx hf
   have c4:=iJ (f:=D.str) (xs:=W) (k:=i+1)
   rw[show ((i+1:Nat):Int)=(i:Int)+1 by omega] at c4
   refine⟨sp,lT,c4, ?_, ?_,mH rfl sp.wx sp.few⟩
   · rw[List.map_append]
     exact ix (by rw[List.length_map,List.length_take];show _+1≤1000000;omega)
   · rw[List.map_append (l₁:=W.take i++[x])]
     exact ix (by rw[List.length_map,List.length_map,List.length_append,List.length_take,List.length_drop];show _+1+_≤1000000;omega)
  cases k with
  |ld=>
   have e1:Kd.ld.w=Str.ofString "load":=rfl
   have n1:¬Kd.ld.w=Str.ofString "wheel":=by boot_fact
   have hn2:(W.length:Int)-1=2:=by have:W.length=3:=hl;omega
   obtain⟨i,hi,i1,i2⟩:∃i:Nat,1+d/8%2=(i:Int)∧1≤i∧i≤2:=⟨(1+d/8%2).toNat,by omega,by omega,by omega⟩
   by_cases h2:(i:Int)=2
   · obtain⟨x,hx,xb,xw⟩:=yE (b:=(1,12)) (d:=d/8/7) (by omega) (by decide)
     have hx:bn [.int (d/8/7), .int 1, .int 12]=some (.str x):=hx
     obtain⟨sp,s1,s2,s3,s4,s5⟩:=fin (i:=i) (b:=some (1,12)) i1 (by rw[show i=2 by omega];rfl) xw fun f=>f xb
     refine⟨_,(toB ?_).trans ?_,sp⟩
     · skip
       k_search(bp,i0,decide_eq_false n1)
     · unfold fmB
       ktf_call(hn2,hi)
       ktf_call(bp,hxm)
       ktf_call(bp,i0,decide_eq_true e1,decide_eq_true h2,hx)
       ktf_call(bp,i0,decide_eq_false n1)
       k_search(s1,s2,s3,s4,s5)
   · obtain⟨sp,s1,s2,s3,s4,s5⟩:=fin (i:=i) (b:=none) (x:=xm) i1 (by rw[show i=1 by omega];rfl) wm fun f=>by rw[show Tx.row Tx.low 12 xm=true from f] at rm;cases rm
     refine⟨_,(toB ?_).trans ?_,sp⟩
     · skip
       k_search(bp,i0,decide_eq_false n1)
     · unfold fmB
       ktf_call(hn2,hi)
       ktf_call(bp,hxm)
       ktf_call(bp,i0,decide_eq_true e1,decide_eq_false h2)
       ktf_call(bp,i0,decide_eq_false n1)
       k_search(s1,s2,s3,s4,s5)
  |wh=>
   have n1:¬Kd.wh.w=Str.ofString "load":=by boot_fact
   have e1:Kd.wh.w=Str.ofString "wheel":=rfl
   by_cases c3:d%8=3
   · obtain⟨a,r2,e2⟩:∃a r2,r=a::r2:=by
      cases r with
      |nil=>exact absurd rfl nr
      |cons a r2=>exact⟨a,r2,rfl⟩
     have wa:=wx a (by rw[er,e2];exact List.mem_cons_of_mem _ List.mem_cons_self)
     obtain⟨x,hx,xl,p,q,u,v,hu,wu,wv,h1,h2,hq⟩:=ml (d:=d/8) (xs:=[Str.ofString " 5 4",Str.ofString " 1000000 0",Str.ofString " 1 0"]) (Pv:=fun x=>x.length≤20∧∃(p q:Int) (u v:Str),Tx.cs x=32::Tx.cs (bv [u,v])∧Wx u∧Wx v∧dI u (0,1000000)=some p∧dI v (0,1000000)=some q∧q<p) (by omega) (by simp) (fun x hx=>by
      simp only[List.mem_cons,List.not_mem_nil,or_false] at hx
      rcases hx with rfl|rfl|rfl
      · exact⟨by boot_fact,5,4,Str.ofString "5",Str.ofString "4",by boot_fact,gO (by boot_fact),gO (by boot_fact),by boot_fact,by boot_fact,by decide⟩
      · exact⟨by boot_fact,1000000,0,Str.ofString "1000000",Str.ofString "0",by boot_fact,gO (by boot_fact),gO (by boot_fact),by boot_fact,by boot_fact,by decide⟩
      · exact⟨by boot_fact,1,0,Str.ofString "1",Str.ofString "0",by boot_fact,gO (by boot_fact),gO (by boot_fact),by boot_fact,by boot_fact,by decide⟩)
     have hx:atI [D.str (Str.ofString " 5 4"), .str (Str.ofString " 1000000 0"), .str (Str.ofString " 1 0")] (d/8%3)=some (.str x):=hx
     refine⟨_, ?_,Aq wa wu wv h1 h2 hq⟩
     have t2:aa cO (.lst (W.map D.str)) none (some 2)=some (.lst ([wheelS,a].map .str)):=by
      have:=lT (f:=D.str) (xs:=W) (k:=2)
      rw[er,e2] at this ⊢
      exact this
     have w2:∀z∈[wheelS,a],Wx z:=fun z hz=>by
      simp only[List.mem_cons,List.not_mem_nil,or_false] at hz
      rcases hz with rfl|rfl
      · exact gO (by boot_fact)
      · exact wa
     have j2:=mH (ws:=[wheelS,a]) rfl w2 (by show 2≤8;decide)
     have jl2:=ja w2 (by show 2≤8;decide)
     have b1:aa aA (.str (bv [wheelS,a])) (.str x)=some (.str (bv [wheelS,a,u,v])):=by
      rw[dq (by omega),j3 (zs:=[u,v]) (by simp) (by simp) hu]
      rfl
     generalize List.map D.str [wheelS,a]=L2 at t2 j2
     unfold fmA
     refine(bx (no 0 c0)).trans ((bx (no 1 c1)).trans ((bx (no 2 c2)).trans (gB ?_)))
     k_search(bp,i0,decide_eq_true e1,decide_eq_true c3,t2,j2,hx,b1)
   · have hn2:(W.length:Int)-1=3:=by have:W.length=4:=hl;omega
     obtain⟨i,hi,i1,i2⟩:∃i:Nat,1+d/8%3=(i:Int)∧1≤i∧i≤3:=⟨(1+d/8%3).toNat,by omega,by omega,by omega⟩
     obtain⟨b,hbs,hbm,hb1,hb2⟩:∃b:Int×Int,Kd.wh.bs[i]? =some (some b)∧b∈allB∧aa jI [.bl (decide ((i:Int)=1))]=some (.int b.1)∧atI [D.int 100, .int 1000000, .int 1000000] ((i:Int)-1)=some (.int b.2):=by
      obtain rfl|rfl|rfl:i=1∨i=2∨i=3:=by omega
      · exact⟨(1,100),rfl,by decide,u4 true,ix0⟩
      · exact⟨(0,1000000),rfl,by decide,u4 false,bV (n:=1) rfl rfl⟩
      · exact⟨(0,1000000),rfl,by decide,u4 false,bV (n:=2) rfl rfl⟩
     obtain⟨x,hx,xb,xw⟩:=yE (b:=b) (d:=d/8/7) (by omega) hbm
     obtain⟨sp,s1,s2,s3,s4,s5⟩:=fin (i:=i) (b:=some b) i1 hbs xw fun f=>f xb
     refine⟨_,(toB ?_).trans ?_,sp⟩
     · skip
       k_search(bp,i0,decide_eq_true e1,decide_eq_false c3)
     · unfold fmB
       ktf_call(hn2,hi)
       ktf_call(bp,hxm)
       ktf_call(bp,i0,decide_eq_false n1)
       ktf_call(bp,i0,decide_eq_true e1,hb1,hb2,hx)
       k_search(s1,s2,s3,s4,s5)
 obtain⟨ws',hk,sp⟩:=key
 refine⟨ws', ?_,sp⟩
 rw[gr,am]
 exact dH (e1.trans hk)
def fw:List Str→List Str
 |[]=>[]
 |x::_=>Txt.split x ⟨#[32]⟩
theorem lq{L E:List Str}:aY (L++E) L.length=fw E:=by
 unfold aY
 rw[List.getElem?_append_right (Nat.le_refl _),Nat.sub_self]
 cases E<;>rfl
theorem vL(a b:List Ld):ar (a++b)=ar a++ar b:=by unfold ar;rw[List.flatMap_append]
structure Ld.Pt(l:Ld):Prop where
 nm:IsW l.name
 s:1≤l.speed
 s2:l.speed≤12
 w8:l.ws.length≤8
 w:∀w∈l.ws,w.Ok
 g:fM l.ws≤200
theorem Ld.Ok.pt{l:Ld}(h:l.Ok)(j:Nat):Ld.Pt ⟨l.name,l.speed,l.ws.take j⟩:=⟨h.nm,h.s,h.s2,Nat.le_trans (List.length_take_le' _ _) h.w8,fun w hw=>h.w w (List.mem_of_mem_take hw),Int.le_trans (lS h.w j) h.g⟩
theorem u5{ls:List Ld}{E ms:List Str}(ok:LdsOk ls)(h6:ls.length≤6)(hR:Rws (ar ls++E))(hb:df (fw E) [loadS,wheelS]=true)(hs:ls≠[]→df (fw E) [wheelS]=false)(hx:i9 (fw E) (ls.map Ld.name)=some ms):Ref (ar ls++E) (ar ls).length ms:=fun first=>
 D2 (ls:=ls) ⟨hR,ok,h6,E,rfl⟩ (by rw[lq];exact hb) (fun q=>by rw[lq];exact hs q) (by rw[lq];exact hx)
theorem yG{ls:List Ld}{l:Ld}{E ms:List Str}(ok:LdsOk ls)(h6:ls.length<6)(pt:l.Pt)(new:l.name∉ls.map Ld.name)(hR:Rws (ar ls++(eY l++E)))(hb:l.ws=[]∨df (fw E) [wheelS]=true)(hx:dY (fw E) l.ws=some ms):Ref (ar ls++(eY l++E)) ((ar ls).length+1+l.ws.length) ms:=fun first=>by
 have e:aY (ar ls++(eY l++E)) ((ar ls).length+1+l.ws.length)=fw E:=by
  have:=lq (L:=ar ls++eY l) (E:=E)
  rw[List.append_assoc,List.length_append,cv] at this
  rw[Nat.add_assoc]
  exact this
 have hat:∀{j:Nat} {r:Str},(eY l)[j]? =some r→(ar ls++(eY l++E))[(ar ls).length+j]? =some r:=fun {j r} h=>by
  rw[List.getElem?_append_right (by omega),Nat.add_sub_cancel_left,List.getElem?_append_left (List.getElem?_eq_some_iff.mp h).1,h]
 refine D3 (l:=l) ⟨hR,ok,by omega,_,rfl⟩ ⟨hR,pt.nm,pt.s,pt.s2,h6,new, ?_⟩ ⟨hR,pt.w,pt.w8,pt.g,fun j w hj=> ?_⟩ (by rw[e];exact hb) (by rw[e];exact hx)
 · have hw:Txt.split (iW l) ⟨#[32]⟩=hws l:=oh (l:=⟨l.name,l.speed,[⟨1,0,0⟩]⟩) ⟨pt.nm,pt.s,pt.s2,by show 1≤1;decide,by show 1≤8;decide,fun w hw=>by rw[List.mem_singleton.mp hw];exact⟨by decide,by decide,by decide,by decide,by decide⟩,by show (0:Int)≤200;decide⟩
   exact jU (hat (j:=0) rfl) hw
 · refine jU ?_ (iw (pt.w w (List.mem_of_getElem? hj)))
   have:=hat (j:=1+j) (r:=i8 w) (by rw[Nat.add_comm];show (l.ws.map i8)[j]? =_;rw[List.getElem?_map,hj];rfl)
   rw[←Nat.add_assoc] at this
   exact this
theorem sf:∀{ls:List Ld} {n:Nat},n<(ar ls).length→∃k l,ls[k]? =some l∧(n=(ar (ls.take k)).length∨∃j w,l.ws[j]? =some w∧n=(ar (ls.take k)).length+1+j)
 |[],n,h=>absurd h (Nat.not_lt_zero _)
 |l::r,n,h=>by
  have e:(ar (l::r)).length=1+l.ws.length+(ar r).length:=by show (eY l++ar r).length=_;rw[List.length_append,cv]
  by_cases h0:n=0
  · exact⟨0,l,rfl, .inl h0⟩
  by_cases h1:n<1+l.ws.length
  · exact⟨0,l,rfl, .inr ⟨n-1,l.ws[n-1]'(by omega),List.getElem?_eq_getElem _,by show n=0+1+(n-1);omega⟩⟩
  · obtain⟨k,l2,hk,q⟩:=sf (ls:=r) (n:=n-(1+l.ws.length)) (by omega)
    have ek:(ar ((l::r).take (k+1))).length=1+l.ws.length+(ar (r.take k)).length:=by show (eY l++ar (r.take k)).length=_;rw[List.length_append,cv]
    refine⟨k+1,l2,hk, ?_⟩
    rcases q with q|⟨j,w,hj,q⟩
    · exact .inl (by omega)
    · exact .inr ⟨j,w,hj,by omega⟩
theorem LdsOk.take{ls:List Ld}(h:LdsOk ls)(k:Nat):LdsOk (ls.take k):=⟨fun l hl=>h.ok l (List.mem_of_mem_take hl),by rw[List.map_take];exact List.Nodup.sublist (List.take_sublist _ _) h.nd⟩
theorem LdsOk.new{ls:List Ld}(h:LdsOk ls){k:Nat}{l:Ld}(hk:ls[k]? =some l):l.name∉(ls.take k).map Ld.name:=by
 have nd:=h.nd
 have e:ls.map Ld.name=(ls.take k).map Ld.name++(l.name::(ls.drop (k+1)).map Ld.name):=by
  obtain⟨hk2,e⟩:=List.getElem?_eq_some_iff.mp hk
  rw[←e,←List.map_cons,List.getElem_cons_drop hk2,←List.map_append,List.take_append_drop]
 rw[e] at nd
 exact fun q=>(List.nodup_append.mp nd).2.2 _ q _ List.mem_cons_self rfl
theorem yH{ls:List Ld}{k j:Nat}{l:Ld}(hk:ls[k]? =some l)(hj:j≤l.ws.length):(ar ls).take ((ar (ls.take k)).length+1+j)=ar (ls.take k)++eY ⟨l.name,l.speed,l.ws.take j⟩:=by
 rw[pJ hk,Nat.add_assoc,List.take_append,List.take_of_length_le (by omega),Nat.add_sub_cancel_left,List.take_append_of_le_length (by rw[cv];omega),Nat.add_comm 1 j]
 show _++iW l::(l.ws.map i8).take j=_
 rw[←List.map_take]
 rfl
theorem yI{ls:List Ld}{k:Nat}(hk:k≤ls.length):(ar ls).take (ar (ls.take k)).length=ar (ls.take k):=by
 have:ar ls=ar (ls.take k)++ar (ls.drop k):=by rw[←vL,List.take_append_drop]
 rw[this,List.take_left' rfl]
theorem j4{ws nms:List Str}(h:eE ws loadS [(1,12)]=none):i9 ws nms=some dB:=by unfold i9;rw[h]
theorem qO{ws nms:List Str}(h:6≤nms.length):i9 ws nms=some dB:=by
 unfold i9
 split
 · rfl
 · exact if_pos h
theorem qP{ws ks:List Str}{k:Str}(h:ws.head?=some k):df ws ks=decide (k∈ks):=by
 cases ws with
 |nil=>cases h
 |cons w r=>rw[←Option.some.inj h];rfl
structure Rok(x:Str):Prop where
 len:x.length≤1000
 nl:10∉Tx.cs x
 lo:∀c∈Tx.cs x,c<128
theorem qQ{rows:List Str}(hl:rows.length≤200)(h:∀r∈rows,Rok r):Txs rows:=⟨hl,fun r hr=>(h r hr).len,fun r hr=>(h r hr).nl,fun r hr=>(h r hr).lo⟩
theorem ou{ws:List Str}(wx:∀x∈ws,Wx x)(few:ws.length≤8):Rok (bv ws):=⟨Nat.le_trans (ja wx few) (by decide),ym fun x hx q=>((wx x hx).ch 10 q).2.1 rfl,Aj fun x hx c hc=>((wx x hx).ch c hc).2.2⟩
theorem kh{x:Str}(h:(decide (x.length≤1000)&&(Tx.cs x).all fun c=>decide (c≠10)&&decide (c<128))=true):Rok x:=by
 rw[Bool.and_eq_true,decide_eq_true_iff,List.all_eq_true] at h
 have q:∀c∈Tx.cs x,c≠10∧c<128:=fun c hc=>by
  have:=h.2 c hc
  rw[Bool.and_eq_true,decide_eq_true_iff,decide_eq_true_iff] at this
  exact this
 exact⟨h.1,fun z=>(q 10 z).1 rfl,fun c hc=>(q c hc).2⟩
theorem jb{ls:List Ld}(ok:∀l∈ls,l.Ok):∀r∈ar ls,Rok r:=by
 intro r hr
 obtain⟨l,hl,hr⟩:=List.mem_flatMap.mp hr
 rcases List.mem_cons.mp hr with rfl|hr
 · exact ou (fun x hx=>((Ba (ok l hl)).wx x hx).1) (by show 3≤8;decide)
 · obtain⟨w,hw,rfl⟩:=List.mem_map.mp hr
   exact ou (fun x hx=>((yD ((ok l hl).w w hw)).wx x hx).1) (by show 4≤8;decide)
structure Bad(A:List Str)(n:Nat)(x:Str)(ms:List Str):Prop where
 le:n≤A.length
 rok:Rok x
 ref:∀E,Txs (A.take n++x::E)→Ref (A.take n++x::E) n ms
theorem yJ{ls:List Ld}(ok:LdsOk ls)(h6:ls.length≤6){n:Nat}(hn:n<(ar ls).length){d:Int}(hd:0≤d):∃r x,(ar ls)[n]? =some r∧gr [.str r, .int d]=some (.str x)∧Bad (ar ls) n x dB:=by
 obtain⟨k,l,hk,q⟩:=sf hn
 have lok:=ok.ok l (List.mem_of_getElem? hk)
 have hk':=(List.getElem?_eq_some_iff.mp hk).1
 have tk:(ls.take k).length=k:=by rw[List.length_take];omega
 rcases q with rfl|⟨j,w,hj,rfl⟩
 · obtain⟨ws',hF,sp⟩:=yF (Ba lok) hd
   have hr:=mF (beh:=[]) (List.append_nil _).symm hk (j:=0) (by rw[cv];omega)
   refine⟨iW l,bv ws',hr,hF,Nat.le_of_lt hn,ou sp.wx sp.few,fun E hT=> ?_⟩
   rw[yI (by omega)] at hT ⊢
   have e:fw (bv ws'::E)=ws':=e9 sp.wx fun q=>by have:=sp.hd;rw[q] at this;cases this
   refine u5 (ok.take k) (by omega) hT.rws ?_ (fun _=> ?_) ?_
   · rw[e,qP sp.hd];decide+kernel
   · rw[e,qP sp.hd];decide+kernel
   · rw[e];exact j4 sp.bad
 · have hj':=(List.getElem?_eq_some_iff.mp hj).1
   obtain⟨ws',hF,sp⟩:=yF (yD (lok.w w (List.mem_of_getElem? hj))) hd
   have hr:=mF (beh:=[]) (List.append_nil _).symm hk (j:=1+j) (by rw[cv];omega)
   rw[←Nat.add_assoc,Nat.add_comm 1 j] at hr
   refine⟨i8 w,bv ws', ?_,hF,Nat.le_of_lt hn,ou sp.wx sp.few,fun E hT=> ?_⟩
   · rw[hr]
     show (l.ws.map i8)[j]? =_
     rw[List.getElem?_map,hj]
     rfl
   · rw[yH hk (by omega),List.append_assoc] at hT ⊢
     have e:fw (bv ws'::E)=ws':=e9 sp.wx fun q=>by have:=sp.hd;rw[q] at this;cases this
     have lj:(l.ws.take j).length=j:=by rw[List.length_take];omega
     have:=yG (l:=⟨l.name,l.speed,l.ws.take j⟩) (ms:=dB) (ok.take k) (by omega) (lok.pt j) (show l.name∉_ from ok.new hk) hT.rws (.inr (by rw[e,qP sp.hd];decide+kernel)) (by rw[e];exact sp.bad _)
     rw[show (ar (ls.take k)).length+1+j=(ar (ls.take k)).length+1+(l.ws.take j).length by rw[lj]]
     exact this
theorem yK:∀(ws:List Wh),∃ys,toPys (ws.map Wh.t)=some ys∧PyData.canLayAll0 ys=true∧PyData.depthAll ys≤1
 |[]=>⟨[],rfl,rfl,Nat.zero_le _⟩
 |w::r=>by
  obtain⟨ys,g1,g2,g3⟩:=yK r
  refine⟨.tuple [.int w.gap, .int w.low, .int w.high]::ys,by show (gW w.t).bind (fun y=>(toPys (r.map Wh.t)).map (y:: ·))=_;rw[g1];rfl, ?_, ?_⟩
  · show (PyData.canLay0 (.tuple [.int w.gap, .int w.low, .int w.high])&&PyData.canLayAll0 ys)=true
    rw[g2]
    rfl
  · show max (PyData.depth (.tuple [.int w.gap, .int w.low, .int w.high])) (PyData.depthAll ys)≤1
    exact Nat.max_le.mpr ⟨by simp[PyData.depth,PyData.depthAll],g3⟩
theorem yL:∀{ls:List Ld},(∀l∈ls,SOk l.name)→∃ys,toPys (ls.map Ld.t)=some ys∧PyData.canLayAll0 ys=true∧PyData.depthAll ys≤3∧ys.length=ls.length
 |[],_=>⟨[],rfl,rfl,Nat.zero_le _,rfl⟩
 |l::r,h=>by
  obtain⟨ys,g1,g2,g3,g4⟩:=yL (ls:=r) fun z hz=>h z (List.mem_cons_of_mem _ hz)
  obtain⟨zs,k1,k2,k3⟩:=yK l.ws
  refine⟨.tuple [.str l.name, .int l.speed, .list zs]::ys, ?_, ?_, ?_,congrArg Nat.succ g4⟩
  · have e:gW l.t=some (.tuple [.str l.name, .int l.speed, .list zs]):=by
     show (toPys [D.str l.name, .int l.speed, .lst (l.ws.map Wh.t)]).map PyData.tuple=_
     show (((gW (.lst (l.ws.map Wh.t))).bind fun x=>some [x]).map (PyData.int l.speed:: ·) |>.map (PyData.str l.name:: ·)).map PyData.tuple=_
     rw[gW,k1]
     rfl
    show (gW l.t).bind (fun y=>(toPys (r.map Ld.t)).map (y:: ·))=_
    rw[g1,e]
    rfl
  · show (PyData.canLay0 (.tuple [.str l.name, .int l.speed, .list zs])&&PyData.canLayAll0 ys)=true
    show ((PyData.canLay0 (.str l.name)&&(true&&(PyData.canLayAll0 zs&&true)))&&PyData.canLayAll0 ys)=true
    rw[g2,k2,show PyData.canLay0 (.str l.name)=true from h l List.mem_cons_self]
    rfl
  · show max (PyData.depth (.tuple [.str l.name, .int l.speed, .list zs])) (PyData.depthAll ys)≤3
    exact Nat.max_le.mpr ⟨by simp[PyData.depth,PyData.depthAll];omega,g3⟩
theorem CN{ls:List Ld}(h:∀l∈ls,SOk l.name):aa eqD (.lst (ls.map Ld.t)) (.lst [])=some (.bl ls.isEmpty):=by
 obtain⟨ys,h1,h2,h3,h4⟩:=yL h
 have e:gW (.lst (ls.map Ld.t))=some (.list ys):=by rw[gW,h1];rfl
 have e0:gW (.lst [])=some (.list []):=rfl
 have s:SeqAt.shaped (.list ys)=true:=by
  unfold SeqAt.shaped
  rw[show PyData.canLay0 (.list ys)=true from h2,decide_eq_true (show (PyData.list ys).depth≤64 from Nat.le_trans (Nat.succ_le_succ h3) (by decide))]
  rfl
 have s0:SeqAt.shaped (.list [])=true:=by decide
 rw[am]
 show (eqX (.lst (ls.map Ld.t)) (.lst [])).map _=_
 unfold eqX
 rw[e,e0,ba,ba,if_pos ⟨s,s0⟩]
 cases ls with
 |nil=>
  cases h1
  rw[PySem.SeqAt.eqv_refl (.list []) h2]
  rfl
 |cons l r=>
  cases ys with
  |nil=>cases h4
  |cons y r2=>rfl
theorem CO{n:Str}(h:IsW n):Wx n:=⟨Nat.le_trans h.hi (by decide),fun c hc=>⟨fun e=>tG h (c:=32) (by decide) (e▸hc),fun e=>tG h (c:=10) (by decide) (e▸hc),tK (h.low c hc)⟩⟩
theorem Ar{a k n t:Str}{zs:List Str}(ha:Tx.cs a=Tx.cs k++[32])(hz:zs≠[])(ht:Tx.cs t=32::Tx.cs (bv zs)):a++n++t=bv (k::n::zs):=Tx.ext (by
 rw[fL (by simp),fL hz,cz,cz,ha,ht,List.append_assoc,List.append_assoc]
 rfl)
theorem u6:Tx.cs (Str.ofString "load ")=Tx.cs loadS++[32]:=by boot_fact
theorem yM:(Str.ofString "load ").length=5:=by boot_fact
theorem ld2{n:Str}:Str.ofString "load "++n=bv [loadS,n]:=Tx.ext (by rw[fL (by simp),iA,cz,u6,List.append_assoc];rfl)
structure LdR(n t:Str)(x:Str):Prop where
 a1:aa aA (.str (Str.ofString "load ")) (.str n)=some (.str (Str.ofString "load "++n))
 a2:aa aA (.str (Str.ofString "load "++n)) (.str t)=some (.str x)
 wds:∃z,Tx.cs t=32::Tx.cs z∧Txt.split x ⟨#[32]⟩=[loadS,n,z]
 rok:Rok x
theorem ldr{n t z:Str}(h:IsW n)(tl:t.length≤5)(ht:Tx.cs t=32::Tx.cs z)(hz:Wx z):LdR n t (Str.ofString "load "++n++t):=by
 have hl:=h.hi
 have e:Str.ofString "load "++n++t=bv [loadS,n,z]:=Ar (zs:=[z]) u6 (by simp) (by rw[iA];exact ht)
 have wx:∀x∈[loadS,n,z],Wx x:=fun x hx=>by
  simp only[List.mem_cons,List.not_mem_nil,or_false] at hx
  rcases hx with rfl|rfl|rfl
  · exact gO (by boot_fact)
  · exact CO h
  · exact hz
 refine⟨dq (by rw[yM];omega),dq (by rw[vK,yM];omega),⟨z,ht, ?_⟩, ?_⟩
 · rw[e];exact e9 wx (by simp)
 · rw[e];exact ou wx (by show 3≤8;decide)
theorem lV{ws:List Str}{vs:List Wh}(h:df ws [wheelS]=false):dY ws vs=some dB:=by
 unfold dY dX
 rw[if_neg (by rw[h];decide)]
theorem yN{ws:List Str}{vs:List Wh}(h:8≤vs.length):dY ws vs=some dB:=by
 unfold dY
 split
 · rfl
 · split
   · rfl
   · rfl
theorem pL:∀{ls:List Ld},(ls.map fun l=>1+(l.ws.length:Int)).sum=((ar ls).length:Int)
 |[]=>rfl
 |l::r=>by
  rw[List.map_cons,List.sum_cons,pL (ls:=r)]
  show _=((eY l++ar r).length:Int)
  rw[List.length_append,cv]
  omega
theorem Bb{ls:List Ld}(ok:LdsOk ls)(h6:ls.length≤6){i:Nat}(hi:i≤ls.length){x:Str}{ms:List Str}(rok:Rok x)(hb:df (Txt.split x ⟨#[32]⟩) [loadS,wheelS]=true)(hs:1≤i→df (Txt.split x ⟨#[32]⟩) [wheelS]=false)(hx:i9 (Txt.split x ⟨#[32]⟩) ((ls.take i).map Ld.name)=some ms):Bad (ar ls) (ar (ls.take i)).length x ms:=by
 have e:=yI hi
 refine⟨?_,rok,fun E hT=> ?_⟩
 · have:=List.length_take_le (ar (ls.take i)).length (ar ls)
   have h2:=congrArg List.length e
   rw[List.length_take] at h2
   omega
 · rw[e] at hT ⊢
   exact u5 (ok.take i) (Nat.le_trans (List.length_take_le' _ _) h6) hT.rws hb (fun q=>hs (by
    rcases Nat.eq_zero_or_pos i with rfl|h
    · exact absurd rfl q
    · exact h)) hx
theorem D6{ls:List Ld}(ok:LdsOk ls)(h6:ls.length≤6){i j:Nat}{l:Ld}(hl:ls[i]? =some l)(hj:j≤l.ws.length){x:Str}{ms:List Str}(rok:Rok x)(hb:j=0∨df (Txt.split x ⟨#[32]⟩) [wheelS]=true)(hx:dY (Txt.split x ⟨#[32]⟩) (l.ws.take j)=some ms):Bad (ar ls) ((ar (ls.take i)).length+1+j) x ms:=by
 have lok:=ok.ok l (List.mem_of_getElem? hl)
 have il:=(List.getElem?_eq_some_iff.mp hl).1
 have e:=yH hl hj
 have lj:(l.ws.take j).length=j:=by rw[List.length_take];omega
 refine⟨?_,rok,fun E hT=> ?_⟩
 · have h2:=congrArg List.length e
   rw[List.length_take,List.length_append,cv,lj] at h2
   omega
 · rw[e,List.append_assoc] at hT ⊢
   have:=yG (l:=⟨l.name,l.speed,l.ws.take j⟩) (E:=x::E) (ms:=ms) (ok.take i) (by rw[List.length_take];omega) (lok.pt j) (show l.name∉_ from ok.new hl) hT.rws (hb.imp (fun z=>by rw[z];rfl) id) hx
   rw[show (ar (ls.take i)).length+1+j=(ar (ls.take i)).length+1+(l.ws.take j).length by rw[lj]]
   exact this
theorem oy{w:Str}{r ks:List Str}:df (w::r) ks=decide (w∈ks):=rfl
theorem tN{n z:Str}:df [loadS,n,z] [wheelS]=false:=by rw[oy];decide+kernel
noncomputable def adT:SF:=(aE (ifS (bD (oD (aa eqD) (vD 4) (cD (.int 0)))) (bq (cu (ae (cD (.int 0)) (ae (oD (aa ixD) (bF (ae (cD (.str (Str.ofString "wheel 1 2 3"))) (ae (cD (.str (Str.ofString "wheel"))) (ae (cD (.str (Str.ofString "wheel 0 1 1"))) ao)))) (oD (aa bB) (oD (aa bz) (vD 5) (cD (.int 7))) (cD (.int 3)))) (ae (cD (.str (Str.ofString "bad"))) ao)))))
 nxS)
 (aE (ifS (bD (oD (aa eqD) (vD 4) (cD (.int 1)))) (aE (ifS (bD (oD (aa eqD) (ap (aa bR) (ae (oD (aa ixD) (oD (aa ixD) (vD 1) (vD 6)) (cD (.int 2))) ao)) (cD (.int 8)))) (bq (cu (ae (oD (aa aA) (vD 7) (cD (.int 9))) (ae (oD (aa ixD) (bF (ae (cD (.str (Str.ofString "wheel 1 0 0"))) (ae (cD (.str (Str.ofString "wheel 1 0 0 0"))) ao))) (oD (aa bB) (oD (aa bz) (vD 5) (cD (.int 7))) (cD (.int 2)))) (ae (cD (.str (Str.ofString "bad"))) ao)))))
 nxS)
 (bq (cu (ae (oD (aa aA) (vD 7) (cD (.int 1))) (ae (oD (aa aA) (oD (aa aA) (cD (.str (Str.ofString "load "))) (oD (aa ixD) (vD 2) (cD (.int 7)))) (cD (.str (Str.ofString " 3")))) (ae (cD (.str (Str.ofString "bad"))) ao))))))
 nxS)
 (aE (ifS (bD (oD (aa eqD) (vD 4) (cD (.int 2)))) (bq (cu (ae (oD (aa aA) (vD 7) (cD (.int 1))) (ae (oD (aa ixD) (bF (ae (cD (.str (Str.ofString ""))) (ae (oD (aa aA) (oD (aa aA) (cD (.str (Str.ofString "load "))) (oD (aa ixD) (oD (aa ixD) (vD 1) (vD 6)) (cD (.int 0)))) (cD (.str (Str.ofString " 3")))) (ae (cD (.str (Str.ofString "loads"))) (ae (cD (.str (Str.ofString "send x 3"))) ao))))) (oD (aa bB) (oD (aa bz) (vD 5) (cD (.int 7))) (cD (.int 4)))) (ae (cD (.str (Str.ofString "bad"))) ao)))))
 nxS)
 (aE (ifS (kK (bD (oD (aa eqD) (vD 4) (cD (.int 3)))) (bD (oD (aa ltD) (ap (aa bR) (ae (oD (aa ixD) (oD (aa ixD) (vD 1) (vD 6)) (cD (.int 2))) ao)) (cD (.int 8))))) (aE (aU 9 (mk Fi (ap (aa qa) (ae (de (itD (slD (aa cO) (oD (aa ixD) (oD (aa ixD) (vD 1) (vD 6)) (cD (.int 2))) (atO (cD (.int 1))) noO)) gT (oD (aa ixD) (vD 0) (cD (.int 0))) []) ao))))
 (aE (ifS (bD (oD (aa gtD) (vD 9) (cD (.int 100)))) (bq (cu (ae (vD 8) (ae (oD (aa aA) (oD (aa aA) (cD (.str (Str.ofString "wheel "))) (oD (aa ixD) (bF (ae (ap (aa j8) (ae (oD (aa gH) (cD (.int 201)) (vD 9)) ao)) (ae (cD (.str (Str.ofString "100"))) ao))) (oD (aa bB) (oD (aa bz) (vD 5) (cD (.int 7))) (cD (.int 2))))) (cD (.str (Str.ofString " 0 0")))) (ae (cD (.str (Str.ofString "long"))) ao)))))
 nxS)
 (bq (cu (ae (vD 8) (ae (cD (.str (Str.ofString "wheel 101 0 0"))) (ae (cD (.str (Str.ofString "bad"))) ao)))))))
 nxS)
 (aE (aU 10 (mk Fi (oD (aa ixD) (bF (ae (oD (aa aA) (oD (aa aA) (cD (.str (Str.ofString "load "))) (oD (aa ixD) (oD (aa ixD) (vD 1) (vD 6)) (cD (.int 0)))) (cD (.str (Str.ofString " 12")))) (ae (oD (aa aA) (oD (aa aA) (cD (.str (Str.ofString "load "))) (oD (aa ixD) (oD (aa ixD) (vD 1) (vD 6)) (cD (.int 0)))) (cD (.str (Str.ofString " 13")))) (ae (oD (aa aA) (cD (.str (Str.ofString "load "))) (oD (aa ixD) (oD (aa ixD) (vD 1) (vD 6)) (cD (.int 0)))) ao)))) (oD (aa bB) (oD (aa bz) (vD 5) (cD (.int 7))) (cD (.int 3))))))
 (aE (ifS (bD (oD (aa eqD) (vD 6) (cD (.int 5)))) (bq (cu (ae (vD 8) (ae (vD 10) (ae (cD (.str (Str.ofString "bad"))) ao)))))
 nxS)
 (bq (cu (ae (vD 8) (ae (vD 10) (ae (oD (aa ixD) (bF (ae (cD (.str (Str.ofString "twice"))) (ae (cD (.str (Str.ofString "bad"))) (ae (cD (.str (Str.ofString "bad"))) ao)))) (oD (aa bB) (oD (aa bz) (vD 5) (cD (.int 7))) (cD (.int 3)))) ao)))))))))))
abbrev mr:Str:=Str.ofString "bad"
theorem As{ls:List Ld}(ok:LdsOk ls)(h6:ls.length≤6)(h1:1≤ls.length){nm:Nat→Str}(hnm:NmOk nm){d:Int}(hd:0≤d):∃n x ms k,iI [.lst ((ar ls).map .str), .lst (ls.map Ld.t), .lst (nmD nm), .int d]=some (.tup [.int ((n:Nat):Int), .str x, .str k])∧jO ms=some k∧Bad (ar ls) n x ms:=by
 obtain⟨i,hi,il⟩:∃i:Nat,d/8%(ls.length:Int)=(i:Int)∧i<ls.length:=by
  have a:=Int.emod_nonneg (d/8) (show (ls.length:Int)≠0 by omega)
  have b:=Int.emod_lt_of_pos (d/8) (show 0<(ls.length:Int) by omega)
  exact⟨(d/8%(ls.length:Int)).toNat,by omega,by omega⟩
 obtain⟨l,hl⟩:∃l,ls[i]? =some l:=⟨_,List.getElem?_eq_getElem il⟩
 have lok:=ok.ok l (List.mem_of_getElem? hl)
 have w8:=lok.w8
 have w1:=lok.w1
 have lpos:0<(ls.length:Int):=by omega
 have hat:atI (ls.map Ld.t) (i:Int)=some l.t:=bV rfl (by rw[List.getElem?_map,hl];rfl)
 have t2:aa ixD l.t (.int 2)=some (.lst (l.ws.map Wh.t)):=by unfold Ld.t;rw[lc];exact bV (n:=2) rfl rfl
 have t0:aa ixD l.t (.int 0)=some (.str l.name):=by unfold Ld.t;rw[lc];exact ix0
 obtain⟨A,hA⟩:∃A:D,A= .lst ((ar ls).map .str):=⟨_,rfl⟩
 rw[←hA]
 have lm:(ar (ls.take (i+1))).length=(ar (ls.take i)).length+1+l.ws.length:=kE hl
 generalize hp:(ar (ls.take i)).length=p at lm
 have bw:=fun {j x ms}=>D6 (j:=j) (x:=x) (ms:=ms) ok h6 hl
 rw[hp] at bw
 have e1:fK [some A,some (.lst (ls.map Ld.t)),some (.lst (nmD nm)),some (.int d),none,none,none,none,none,none,none]=adT [some A,some (.lst (ls.map Ld.t)),some (.lst (nmD nm)),some (.int d),some (.int (d%8)),some (.int (d/8)),some (.int (i:Int)),some (.int (p:Int)),some (.int ((p:Int)+1+(l.ws.length:Int))),none,none]:=by
  have cm:de (itD (slD (aa cO) (vD 1) noO (atO (vD 6)))) gT (oD (aa aA) (cD (.int 1)) (ap (aa bR) (ae (oD (aa ixD) (vD 0) (cD (.int 2))) ao))) [] [some A,some (.lst (ls.map Ld.t)),some (.lst (nmD nm)),some (.int d),some (.int (d%8)),some (.int (d/8)),some (.int (i:Int)),none,none,none,none]=some (.lst (((ls.take i).map fun l=>1+(l.ws.length:Int)).map .int)):=by
   unfold de
   simp only[itD,slD,atO,noO,jz,nY,ba]
   rw[lT]
   simp only[ba,iP]
   rw[if_pos (by rw[List.length_map,List.length_take];omega),fV (f:=fun l:Ld=>D.int (1+(l.ws.length:Int)))]
   · rw[List.map_map];rfl
   · intro z hz
     have zok:=ok.ok z (List.mem_of_mem_take hz)
     have z8:=zok.w8
     refine⟨rfl, ?_⟩
     have z2:aa ixD z.t (.int 2)=some (.lst (z.ws.map Wh.t)):=by unfold Ld.t;rw[lc];exact bV (n:=2) rfl rfl
     show oD (aa aA) (cD (.int 1)) (ap (aa bR) (ae (oD (aa ixD) (vD 0) (cD (.int 2))) ao)) [some z.t]=_
     k_search(z2)
  have sm:aa qa [.lst (((ls.take i).map fun l=>1+(l.ws.length:Int)).map .int)]=some (.int (p:Int)):=by rw[qJ,pL,hp]
  unfold fK
  refine(ck (e1:=[some A,some (.lst (ls.map Ld.t)),some (.lst (nmD nm)),some (.int d),some (.int (d%8)),none,none,none,none,none,none]) ?_).trans ?_
  · skip
    k_search(hi)
  refine(ck (e1:=[some A,some (.lst (ls.map Ld.t)),some (.lst (nmD nm)),some (.int d),some (.int (d%8)),some (.int (d/8)),none,none,none,none,none]) ?_).trans ?_
  · skip
    k_search(hi)
  refine(ck (e1:=[some A,some (.lst (ls.map Ld.t)),some (.lst (nmD nm)),some (.int d),some (.int (d%8)),some (.int (d/8)),some (.int (i:Int)),none,none,none,none]) ?_).trans ?_
  · skip
    k_search(hi)
  refine(ck (e1:=[some A,some (.lst (ls.map Ld.t)),some (.lst (nmD nm)),some (.int d),some (.int (d%8)),some (.int (d/8)),some (.int (i:Int)),some (.int (p:Int)),none,none,none]) ?_).trans ?_
  · generalize (((ls.take i).map fun l=>1+(l.ws.length:Int)).map D.int)=L at cm sm
    k_search(cm,sm)
  refine(ck (e1:=[some A,some (.lst (ls.map Ld.t)),some (.lst (nmD nm)),some (.int d),some (.int (d%8)),some (.int (d/8)),some (.int (i:Int)),some (.int (p:Int)),some (.int ((p:Int)+1+(l.ws.length:Int))),none,none]) ?_).trans rfl
  k_search(bp,hat,t2)
 generalize hE:[some A,some (.lst (ls.map Ld.t)),some (.lst (nmD nm)),some (.int d),some (.int (d%8)),some (.int (d/8)),some (.int (i:Int)),some (.int (p:Int)),some (.int ((p:Int)+1+(l.ws.length:Int))),none,none]=E5 at e1
 have no:∀m:Int,¬d%8=m→bD (oD (aa eqD) (vD 4) (cD (.int m))) E5=some false:=fun m hm=>by
  rw[←hE]
  k_search(decide_eq_false hm)
 have n7:atI (nmD nm) 7=some (.str (nm 7)):=lR (nm:=nm) (i:=7) (by decide)
 have w7:=hnm.w 7 (by decide)
 have r7:=ldr (t:=Str.ofString " 3") (z:=Str.ofString "3") w7 (by boot_fact) (by boot_fact) (gO (by boot_fact))
 have rl:=ldr (t:=Str.ofString " 3") (z:=Str.ofString "3") lok.nm (by boot_fact) (by boot_fact) (gO (by boot_fact))
 have key:∃n x ms k,adT E5=some (.rt (.tup [.int ((n:Nat):Int), .str x, .str k]))∧jO ms=some k∧Bad (ar ls) n x ms:=by
  unfold adT
  by_cases w0:d%8=0
  · obtain⟨x,hx,rok,b1,b2⟩:=ml (d:=d/8/7) (xs:=[Str.ofString "wheel 1 2 3",Str.ofString "wheel",Str.ofString "wheel 0 1 1"]) (Pv:=fun x=>Rok x∧df (Txt.split x ⟨#[32]⟩) [loadS,wheelS]=true∧(eE (Txt.split x ⟨#[32]⟩) loadS [(1,12)]).isNone=true) (by omega) (by simp) (fun x hx=>by
     simp only[List.mem_cons,List.not_mem_nil,or_false] at hx
     rcases hx with rfl|rfl|rfl<;>exact⟨kh (by boot_fact),by boot_fact,by boot_fact⟩)
    have hx:atI [D.str (Str.ofString "wheel 1 2 3"), .str (Str.ofString "wheel"), .str (Str.ofString "wheel 0 1 1")] (d/8/7%3)=some (.str x):=hx
    refine⟨0,x,dB,mr, ?_,rfl,Bb (i:=0) ok h6 (Nat.zero_le _) rok b1 (fun q=>absurd q (by decide)) (j4 (Option.isNone_iff_eq_none.mp b2))⟩
    refine gB ?_
    rw[←hE]
    k_search(decide_eq_true w0,bp,hx)
    rfl
  by_cases w1':d%8=1
  · by_cases h8:(l.ws.length:Int)=8
    · obtain⟨x,hx,rok,b1⟩:=ml (d:=d/8/7) (xs:=[Str.ofString "wheel 1 0 0",Str.ofString "wheel 1 0 0 0"]) (Pv:=fun x=>Rok x∧df (Txt.split x ⟨#[32]⟩) [wheelS]=true) (by omega) (by simp) (fun x hx=>by
       simp only[List.mem_cons,List.not_mem_nil,or_false] at hx
       rcases hx with rfl|rfl<;>exact⟨kh (by boot_fact),by boot_fact⟩)
      have hx:atI [D.str (Str.ofString "wheel 1 0 0"), .str (Str.ofString "wheel 1 0 0 0")] (d/8/7%2)=some (.str x):=hx
      refine⟨p+1+8,x,dB,mr, ?_,rfl,bw (j:=8) (by omega) rok (.inr b1) (yN (by rw[List.length_take];omega))⟩
      refine(bx (no 0 w0)).trans (gB ?_)
      rw[←hE,show ((p+1+8:Nat):Int)=(p:Int)+9 by omega]
      k_search(decide_eq_true w1',bp,hat,t2,decide_eq_true h8,hx)
    · obtain⟨z,_,ez⟩:=r7.wds
      refine⟨p+1+0,_,dB,mr, ?_,rfl,bw (j:=0) (by omega) r7.rok (.inl rfl) (lV (by rw[ez];exact tN))⟩
      refine(bx (no 0 w0)).trans (gB ?_)
      rw[←hE,show ((p+1+0:Nat):Int)=(p:Int)+1 by omega]
      k_search(decide_eq_true w1',bp,hat,t2,decide_eq_false h8,n7,r7.a1,r7.a2)
  by_cases w2:d%8=2
  · obtain⟨x,hx,rok,b1⟩:=ml (d:=d/8/7) (xs:=[Str.ofString "",Str.ofString "load "++l.name++Str.ofString " 3",Str.ofString "loads",Str.ofString "send x 3"]) (Pv:=fun x=>Rok x∧df (Txt.split x ⟨#[32]⟩) [wheelS]=false) (by omega) (by simp) (fun x hx=>by
     simp only[List.mem_cons,List.not_mem_nil,or_false] at hx
     rcases hx with rfl|rfl|rfl|rfl
     · refine⟨kh (by boot_fact), ?_⟩
       rw[pD (show 32∉Tx.cs (Str.ofString "") by boot_fact),oy]
       decide+kernel
     · obtain⟨z,_,ez⟩:=rl.wds
       exact⟨rl.rok,by rw[ez];exact tN⟩
     · exact⟨kh (by boot_fact),by boot_fact⟩
     · exact⟨kh (by boot_fact),by boot_fact⟩)
    have hx:atI [D.str (Str.ofString ""), .str (Str.ofString "load "++l.name++Str.ofString " 3"), .str (Str.ofString "loads"), .str (Str.ofString "send x 3")] (d/8/7%4)=some (.str x):=hx
    refine⟨p+1+0,x,dB,mr, ?_,rfl,bw (j:=0) (by omega) rok (.inl rfl) (lV b1)⟩
    refine(bx (no 0 w0)).trans ((bx (no 1 w1')).trans (gB ?_))
    rw[←hE,show ((p+1+0:Nat):Int)=(p:Int)+1 by omega]
    k_search(decide_eq_true w2,bp,hat,t0,rl.a1,rl.a2,hx)
  have qe:((p+1+l.ws.length:Nat):Int)=(p:Int)+1+(l.ws.length:Int):=by omega
  by_cases w3:d%8=3∧(l.ws.length:Int)<8
  · have hj:=Nat.le_refl l.ws.length
    have tk:l.ws.take l.ws.length=l.ws:=List.take_of_length_le hj
    have hsp:aa qa [.lst (((l.ws.drop 1).map Wh.gap).map .int)]=some (.int (fM l.ws)):=qJ
    have hc:de (itD (slD (aa cO) (oD (aa ixD) (oD (aa ixD) (vD 1) (vD 6)) (cD (.int 2))) (atO (cD (.int 1))) noO)) gT (oD (aa ixD) (vD 0) (cD (.int 0))) [] E5=some (.lst (((l.ws.drop 1).map Wh.gap).map .int)):=by
     rw[←hE]
     unfold de
     simp only[itD,slD,oD,atO,noO,cD,jz,nY,ba,bp,hat,t2]
     rw[show aa cO (.lst (l.ws.map Wh.t)) (some 1) none=some (.lst ((l.ws.drop 1).map Wh.t)) from iJ (k:=1)]
     simp only[ba,iP]
     rw[if_pos (by rw[List.length_map,List.length_drop];omega),fV (f:=fun w:Wh=>D.int w.gap)]
     · rw[List.map_map];rfl
     · intro w _
       refine⟨rfl, ?_⟩
       show oD (aa ixD) (vD 0) (cD (.int 0)) [some w.t]=_
       simp only[oD,jz,cD,ba,wh0]
    have g2:=lok.g
    generalize hL:(((l.ws.drop 1).map Wh.gap).map D.int)=L at hc hsp
    by_cases hf:100<fM l.ws
    · obtain⟨x,hx,g,gl,gx,gg⟩:=ml (d:=d/8/7) (xs:=[ts (201-fM l.ws),Str.ofString "100"]) (Pv:=fun x=>∃g:Int,1≤g∧g≤100∧x=ts g∧201≤fM l.ws+g) (by omega) (by simp) (fun x hx=>by
       simp only[List.mem_cons,List.not_mem_nil,or_false] at hx
       rcases hx with rfl|rfl
       · exact⟨_,by omega,by omega,rfl,by omega⟩
       · exact⟨100,by decide,by decide,by boot_fact,by omega⟩)
      obtain⟨rfl,gs⟩:=gg
      have hx:atI [D.str (ts (201-fM l.ws)), .str (Str.ofString "100")] (d/8/7%2)=some (.str (ts g)):=hx
      have wok:Wh.Ok ⟨g,0,0⟩:=⟨gl,gx,Int.le_refl 0,Int.le_refl 0,show (0:Int)≤1000000 by decide⟩
      have ll:=kC (n:=g) (by omega) (by omega)
      have ew:Str.ofString "wheel "++ts g++Str.ofString " 0 0"=i8 ⟨g,0,0⟩:=Ar (k:=wheelS) (zs:=[ts 0,ts 0]) (by boot_fact) (by simp) (by boot_fact)
      have lw:(Str.ofString "wheel ").length=6:=by boot_fact
      have b1:aa aA (.str (Str.ofString "wheel ")) (.str (ts g))=some (.str (Str.ofString "wheel "++ts g)):=dq (by omega)
      have b2:aa aA (.str (Str.ofString "wheel "++ts g)) (.str (Str.ofString " 0 0"))=some (.str (i8 ⟨g,0,0⟩)):=by
       rw[dq (by rw[vK,show (Str.ofString " 0 0").length=4 by boot_fact];omega),ew]
      have s1:=n9 (i:=201-fM l.ws) (by omega) (by omega)
      refine⟨p+1+l.ws.length,i8 ⟨g,0,0⟩,CI,Str.ofString "long", ?_,by boot_fact,bw hj (ou (fun x hx=>((yD wok).wx x hx).1) (by show 4≤8;decide)) (.inr (by rw[iw wok];exact oi)) (by rw[iw wok,r9 wok,tk,if_neg (by omega),if_pos (by rw[pI (fun q=>by rw[q] at w1;exact absurd w1 (by decide))];show 200<fM l.ws+g;omega)])⟩
      refine(bx (no 0 w0)).trans ((bx (no 1 w1')).trans ((bx (no 2 w2)).trans (gB ?_)))
      rw[qe]
      rw[←hE] at hc ⊢
      k_search(decide_eq_true w3.1,bp,hat,t2,decide_eq_true w3.2,hc,hsp,decide_eq_true hf,s1,hx,b1,b2)
    · refine⟨p+1+l.ws.length,Str.ofString "wheel 101 0 0",dB,mr, ?_,rfl,bw hj (kh (by boot_fact)) (.inr (by boot_fact)) ?_⟩
      · refine(bx (no 0 w0)).trans ((bx (no 1 w1')).trans ((bx (no 2 w2)).trans (gB ?_)))
        rw[qe]
        rw[←hE] at hc ⊢
        k_search(decide_eq_true w3.1,bp,hat,t2,decide_eq_true w3.2,hc,hsp,decide_eq_false hf)
      · unfold dY
        rw[show dX (Txt.split (Str.ofString "wheel 101 0 0") ⟨#[32]⟩) wheelS whB=none from Option.isNone_iff_eq_none.mp (by boot_fact)]
  · have n3:kK (bD (oD (aa eqD) (vD 4) (cD (.int 3)))) (bD (oD (aa ltD) (ap (aa bR) (ae (oD (aa ixD) (oD (aa ixD) (vD 1) (vD 6)) (cD (.int 2))) ao)) (cD (.int 8)))) E5=some false:=by
     rw[←hE]
     by_cases q:d%8=3
     · have q2:¬(l.ws.length:Int)<8:=fun z=>w3 ⟨q,z⟩
       k_search(decide_eq_true q,bp,hat,t2,decide_eq_false q2)
     · skip
       k_search(decide_eq_false q)
    have ra:=ldr (t:=Str.ofString " 12") (z:=Str.ofString "12") lok.nm (by boot_fact) (by boot_fact) (gO (by boot_fact))
    have rb:=ldr (t:=Str.ofString " 13") (z:=Str.ofString "13") lok.nm (by boot_fact) (by boot_fact) (gO (by boot_fact))
    have wc:∀x∈[loadS,l.name],Wx x:=fun x hx=>by
     simp only[List.mem_cons,List.not_mem_nil,or_false] at hx
     rcases hx with rfl|rfl
     · exact gO (by boot_fact)
     · exact CO lok.nm
    have bl3:∀{r:List Str},df (loadS::r) [loadS,wheelS]=true∧df (loadS::r) [wheelS]=false:=fun {r}=>⟨by rw[oy];decide+kernel,by rw[oy];decide+kernel⟩
    obtain⟨x,ms,kd,hx,hk,km,rok,⟨r,er⟩,hh⟩:∃x ms kd,atI [D.str (Str.ofString "load "++l.name++Str.ofString " 12"), .str (Str.ofString "load "++l.name++Str.ofString " 13"), .str (Str.ofString "load "++l.name)] (d/8/7%3)=some (.str x)∧atI [D.str (Str.ofString "twice"), .str (Str.ofString "bad"), .str (Str.ofString "bad")] (d/8/7%3)=some (.str kd)∧jO ms=some kd∧Rok x∧(∃r,Txt.split x ⟨#[32]⟩=loadS::r)∧∀nms:List Str,nms.length<6→l.name∈nms→i9 (Txt.split x ⟨#[32]⟩) nms=some ms:=by
     obtain q|q|q:d/8/7%3=0∨d/8/7%3=1∨d/8/7%3=2:=by omega
     · rw[q]
       refine⟨_,CH,Str.ofString "twice",ix0,ix0,by boot_fact,ra.rok, ?_,fun nms h5 hm=> ?_⟩
       · obtain⟨z,_,ez⟩:=ra.wds
         exact⟨_,ez⟩
       · rw[Ar (zs:=[ts 12]) u6 (by simp) (by boot_fact),e9 (ws:=[loadS,l.name,ts 12]) (fun x hx=>by
          simp only[List.mem_cons,List.not_mem_nil,or_false] at hx
          rcases hx with rfl|rfl|rfl
          · exact gO (by boot_fact)
          · exact CO lok.nm
          · exact gO (by boot_fact)) (by simp)]
         have:=uY (l:=⟨l.name,12,[]⟩) lok.nm (show (1:Int)≤12 by decide) (Int.le_refl 12) (nms:=nms)
         rw[if_neg (by omega),if_pos hm] at this
         exact this
     · rw[q]
       obtain⟨z,hz,ez⟩:=rb.wds
       refine⟨_,dB,mr,bV (n:=1) rfl rfl,bV (n:=1) rfl rfl,by boot_fact,rb.rok,⟨_,ez⟩,fun nms _ _=>j4 ?_⟩
       rw[ez]
       have e13:z=Str.ofString "13":=Tx.ext (List.cons.inj (hz.symm.trans (show Tx.cs (Str.ofString " 13")=32::Tx.cs (Str.ofString "13") by boot_fact))).2
       exact yB (k:= .ld) (i:=2) (b:=some (1,12)) (x:=z) (by decide) rfl rfl (fun f=>f (by rw[e13];decide+kernel))
     · rw[q]
       refine⟨_,dB,mr,bV (n:=2) rfl rfl,bV (n:=2) rfl rfl,by boot_fact, ?_,⟨[l.name], ?_⟩,fun nms _ _=>j4 ?_⟩
       · rw[ld2];exact ou wc (by show 2≤8;decide)
       · rw[ld2];exact e9 wc (by simp)
       · rw[ld2,e9 wc (by simp)]
         exact on (k:= .ld) (show (2:Nat)≠3 by decide)
    have bh:=fun {ms}=>Bb (i:=i+1) (x:=x) (ms:=ms) ok h6 (by omega) rok (by rw[er];exact bl3.1) (fun _=>by rw[er];exact bl3.2)
    rw[lm] at bh
    have lt:((ls.take (i+1)).map Ld.name).length=i+1:=by rw[List.length_map,List.length_take];omega
    have a3:aa aA (.str (Str.ofString "load ")) (.str l.name)=some (.str (Str.ofString "load "++l.name)):=ra.a1
    by_cases h5:(i:Int)=5
    · refine⟨p+1+l.ws.length,x,dB,mr, ?_,rfl,bh (qO (by omega))⟩
      refine(bx (no 0 w0)).trans ((bx (no 1 w1')).trans ((bx (no 2 w2)).trans ((bx n3).trans ?_)))
      rw[qe,←hE]
      k_search(bp,hat,t0,a3,ra.a2,rb.a2,hx,decide_eq_true h5)
    · refine⟨p+1+l.ws.length,x,ms,kd, ?_,km,bh (hh _ (by omega) (by
       have e:ls.take (i+1)=ls.take i++[l]:=by rw[List.take_succ,hl];rfl
       rw[e,List.map_append]
       exact List.mem_append_right _ List.mem_cons_self))⟩
      refine(bx (no 0 w0)).trans ((bx (no 1 w1')).trans ((bx (no 2 w2)).trans ((bx n3).trans ?_)))
      rw[qe,←hE]
      k_search(bp,hat,t0,a3,ra.a2,rb.a2,hx,hk,decide_eq_false h5)
 obtain⟨n,x,ms,k,hk,r⟩:=key
 refine⟨n,x,ms,k, ?_,r⟩
 rw[iI,am]
 exact dH (e1.trans hk)
theorem yO{xs:List Int}{S:D}(hS:S= .lst (xs.map D.int)∨S= .fz (xs.map D.int)){most:Nat}(hm:most≤8):∃nm ls,NmOk nm∧LdsOk ls∧ls.length≤most∧ls.map Ld.name=(List.range ls.length).map nm∧gK [S, .int (most:Int)]=some (.tup [.lst (nmD nm), .lst (ls.map Ld.t)]):=by
 obtain⟨nm,hnm,hN⟩:=z9 (c:=gR xs 0)
 have hc0:=qI hS 0
 have hc0:cM [S, .int 0]=some (.int (gR xs 0)):=hc0
 have hmx:=rY (c:=gR xs 0) (o:=110) (p:=1000003) (by decide) (by decide) (by decide) (by decide)
 have nn:=li (gR xs 0) 110 1000003
 generalize qG (gR xs 0) 110 1000003=dr at hmx nn
 have b1:0≤dr%((most:Int)+1):=Int.emod_nonneg _ (by omega)
 have b2:dr%((most:Int)+1)<(most:Int)+1:=Int.emod_lt_of_pos _ (by omega)
 obtain⟨many,em⟩:∃many:Nat,dr%((most:Int)+1)=(many:Int):=⟨_,(Int.toNat_of_nonneg b1).symm⟩
 obtain⟨e',hloop,ls,o5,o6,o7,o8,rfl,hl,hok,hnames⟩:=i7 (g:=nmG 5) (b:=lB2) (ds:=(List.range many).map fun(i:Nat)=>D.int (0+(i:Int))) (env:=[some S,some (.int (most:Int)),some (.lst (nmD nm)),some (.int (many:Int)),some (.lst []),none,none,none,none])
  (fun i e=>∃(ls:List Ld) (o5 o6 o7 o8:Option D),e=[some S,some (.int (most:Int)),some (.lst (nmD nm)),some (.int (many:Int)),some (.lst (ls.map Ld.t)),o5,o6,o7,o8]∧ls.length=i∧(∀l∈ls,l.Ok)∧ls.map Ld.name=(List.range i).map nm)
  ⟨[],none,none,none,none,rfl,rfl,fun l h=>(by cases h),rfl⟩ (by
    rintro i d e hd ⟨ls,o5,o6,o7,o8,rfl,hl,hok,hnames⟩
    rw[List.getElem?_map] at hd
    obtain⟨k,hk,rfl⟩:=Option.map_eq_some_iff.mp hd
    obtain⟨hk8,hk⟩:=List.getElem?_eq_some_iff.mp hk
    rw[List.getElem_range] at hk
    subst hk
    have hi:i<many:=by simpa using hk8
    refine⟨_,rfl, ?_⟩
    have hc:=qI hS (1+i)
    rw[show ((1+i:Nat):Int)=1+(i:Int) by omega] at hc
    generalize hcz:gR xs (1+i)+65537*(i:Int)=c
    have hmix:=rY (c:=c) (o:=111) (p:=1000033) (by decide) (by decide) (by decide) (by decide)
    have d0:=li c 111 1000033
    generalize qG c 111 1000033=dr at hmix d0
    obtain⟨sp,spm,hsp⟩:=lh (xs:=[1,12,1+dr/3%12]) (i:=dr%3) (Int.emod_nonneg _ (by decide)) (Int.emod_lt_of_pos _ (by decide))
    have hsp:atI [D.int 1, .int 12, .int (1+dr/3%12)] (dr%3)=some (.int sp):=hsp
    have s1:1≤sp∧sp≤12:=by
     simp only[List.mem_cons,List.not_mem_nil,or_false] at spm
     omega
    obtain⟨n,nm2,hn⟩:=lh (xs:=[1,8,1+dr/36%8]) (i:=dr/12%3) (Int.emod_nonneg _ (by decide)) (Int.emod_lt_of_pos _ (by decide))
    have hn:atI [D.int 1, .int 8, .int (1+dr/36%8)] (dr/12%3)=some (.int n):=hn
    have n1:1≤n∧n≤8:=by
     simp only[List.mem_cons,List.not_mem_nil,or_false] at nm2
     omega
    obtain⟨nn,en⟩:∃nn:Nat,n=(nn:Int):=⟨n.toNat,by omega⟩
    subst en
    obtain⟨ws,wl,wok,wg,hW⟩:=vG (c:=c) (n:=nn) (by omega)
    have hat:=lR (nm:=nm) (i:=i) (by omega)
    have hlen:i<1000000:=by omega
    refine⟨[some S,some (.int (most:Int)),some (.lst (nmD nm)),some (.int (many:Int)),some (.lst ((ls++[Ld.mk (nm i) sp ws]).map Ld.t)),some (.int (i:Int)),some (.int c),some (.int dr),some (.int sp)], ?_,ls++[Ld.mk (nm i) sp ws],_,_,_,_,rfl,by rw[List.length_append,List.length_singleton,hl],fun l hl'=> ?_, ?_⟩
    · skip
      ktf_call(Int.zero_add,hc,hcz)
      ktf_call(hmix)
      ktf_call(bp,hsp)
      k_search(bp,hat,hn,hW,hl,hlen,List.map_append,List.map_cons,List.map_nil,Ld.t)
    · rcases List.mem_append.mp hl' with hl'|hl'
      · exact hok l hl'
      · rw[List.mem_singleton.mp hl']
        exact⟨hnm.w i (by omega),s1.1,s1.2,by show 1≤ws.length;omega,by show ws.length≤8;omega,wok,wg⟩
    · rw[List.map_append,hnames,List.range_succ,List.map_append]
      rfl)
 rw[List.length_map,List.length_range] at hl hnames
 refine⟨nm,ls,hnm,⟨hok, ?_⟩,by omega,by rw[hl];exact hnames, ?_⟩
 · rw[hnames]
   refine List.Pairwise.map _ ?_ (R:=fun a b=>a<b∧b<8) ?_
   · intro a b hab q
     have:=hnm.inj a b (by omega) (by omega) q
     omega
   · exact List.Pairwise.imp_of_mem (fun {a b} _ hb h=>⟨h,by have:=List.mem_range.mp hb;omega⟩) List.pairwise_lt_range
 rw[gK,am]
 refine dH ?_
 show fu [some S,some (.int (most:Int)),none,none,none,none,none,none,none]=_
 unfold fu
 have hr:aa jF [.int (many:Int)]=some ((List.range many).map fun(i:Nat)=>D.int (0+(i:Int))):=by
  have:=mC (j:=(many:Int)) (by omega)
  rw[Int.toNat_natCast] at this
  exact this
 have hmod:aa bB (.int dr) (.int ((most:Int)+1))=some (.int (many:Int)):=by rw[qy (by omega),em]
 ktf_call(hc0,hN)
 ktf_call(hc0,hmx,hmod)
 ktf_call(hr)
 ktf_call(hr,hloop)
 k_search(hr)
def vM{α:Type}(xs:List α)(lo hi:Option Int):List α:=(xs.drop (HT.sIx xs.length 0 lo)).take (HT.sIx xs.length xs.length hi-HT.sIx xs.length 0 lo)
theorem sh{α:Type}{f:α→D}{xs:List α}{lo hi:Option Int}:lJ (xs.map f) lo hi=(vM xs lo hi).map f:=by
 unfold lJ vM
 rw[List.length_map,List.map_take,List.map_drop]
theorem yP{α:Type}{xs:List α}{lo hi:Option Int}:(vM xs lo hi).length≤xs.length:=by
 unfold vM
 refine Nat.le_trans (List.length_take_le' _ _) ?_
 rw[List.length_drop]
 exact Nat.sub_le _ _
theorem yQ{nm:Nat→Str}(h:NmOk nm){n:Nat}(hn:n≤8):((List.range n).map nm).Nodup:=by
 refine List.Pairwise.map _ ?_ (R:=fun a b=>a<b∧b<8) ?_
 · intro a b hab q
   have:=h.inj a b (by omega) (by omega) q
   omega
 · exact List.Pairwise.imp_of_mem (fun {a b} _ hb h=>⟨h,by have:=List.mem_range.mp hb;omega⟩) List.pairwise_lt_range
noncomputable def c7:BF:=bD (oD (aa ltD) (ap (aa bR) (ae (vD 2) ao)) (cD (.int 6)))
noncomputable def b7:SF:=(vE 2 (cu (ae (flatV (oD (aa ixD) (vD 1) (ap (aa bR) (ae (vD 2) ao)))) (ae (flatV (cD (.int 3))) (ae (flsV (bF (ae (cu (ae (cD (.int 1)) (ae (cD (.int 0)) (ae (cD (.int 1)) ao)))) ao))) ao)))))
theorem CP{nm:Nat→Str}(h:NmOk nm){k:Nat}(hk:k<8):Ld.Ok ⟨nm k,3,[⟨1,0,1⟩]⟩:=⟨h.w k hk,show (1:Int)≤3 by decide,show (3:Int)≤12 by decide,Nat.le_refl 1,show 1≤8 by decide,fun w hw=>by rw[List.mem_singleton.mp hw];exact⟨by decide,by decide,by decide,by decide,by decide⟩,show (0:Int)≤200 by decide⟩
theorem yR{nm:Nat→Str}(hnm:NmOk nm){o0:Option D}:∀(m:Nat) (ls:List Ld),ls.length+m=6→(∀l∈ls,l.Ok)→ls.map Ld.name=(List.range ls.length).map nm→∃ls7:List Ld,ls7.length=6∧(∀l∈ls7,l.Ok)∧ls7.map Ld.name=(List.range 6).map nm∧whN c7 b7 (m+1) [o0,some (.lst (nmD nm)),some (.lst (ls.map Ld.t))]=some (.nx [o0,some (.lst (nmD nm)),some (.lst (ls7.map Ld.t))])
 |0,ls,h,ok,hn=>by
  refine⟨ls,by omega,ok,by rw[hn,show ls.length=6 by omega], ?_⟩
  have q:¬(ls.length:Int)<6:=by omega
  rw[whN]
  unfold c7
  k_search(decide_eq_false q)
 |m+1,ls,h,ok,hn=>by
  obtain⟨ls7,g1,g2,g3,g4⟩:=yR hnm (o0:=o0) m (ls++[⟨nm ls.length,3,[⟨1,0,1⟩]⟩]) (by rw[List.length_append,List.length_singleton];omega) (fun l hl=>by
   rcases List.mem_append.mp hl with hl|hl
   · exact ok l hl
   · rw[List.mem_singleton.mp hl];exact CP hnm (by omega)) (by
   rw[List.map_append,hn,List.length_append,List.length_singleton,List.range_succ,List.map_append]
   rfl)
  refine⟨ls7,g1,g2,g3, ?_⟩
  have q:(ls.length:Int)<6:=by omega
  have hc:c7 [o0,some (.lst (nmD nm)),some (.lst (ls.map Ld.t))]=some true:=by
   unfold c7
   k_search(decide_eq_true q)
  have hat:=lR (nm:=nm) (i:=ls.length) (by omega)
  have hl1:ls.length<1000000:=by omega
  have hb:b7 [o0,some (.lst (nmD nm)),some (.lst (ls.map Ld.t))]=some (.nx [o0,some (.lst (nmD nm)),some (.lst ((ls++[Ld.mk (nm ls.length) 3 [⟨1,0,1⟩]]).map Ld.t))]):=by
   unfold b7
   rw[List.map_append]
   k_search(vE,PD.flatV,PD.flsV,bp,hat,D.flat,flats,Bool.and_true,hl1)
   rfl
  rw[whN,hc,ba,nZ,hb,ba]
  exact g4
theorem D7{nm:Nat→Str}(hnm:NmOk nm){ls:List Ld}(h6:ls.length≤6)(ok:∀l∈ls,l.Ok)(hn:ls.map Ld.name=(List.range ls.length).map nm):∃ls7:List Ld,ls7.length=6∧LdsOk ls7∧gy [.lst (ls.map Ld.t), .lst (nmD nm)]=some (.lst ((ar ls7++[Str.ofString "load "++nm 7++Str.ofString " 3",Str.ofString "wheel 1 0 0"]).map .str)):=by
 obtain⟨ls7,g1,g2,g3,g4⟩:=yR hnm (o0:=some (.lst (ls.map Ld.t))) (6-ls.length) ls (by omega) ok hn
 refine⟨ls7,g1,⟨g2,by rw[g3];exact yQ hnm (by decide)⟩, ?_⟩
 have hloop:whS c7 b7 [some (.lst (ls.map Ld.t)),some (.lst (nmD nm)),some (.lst (ls.map Ld.t))]=_:=xh g4 (by omega)
 have hW:=uU g2 (by omega)
 have n7:atI (nmD nm) 7=some (.str (nm 7)):=lR (nm:=nm) (i:=7) (by decide)
 have r7:=ldr (t:=Str.ofString " 3") (z:=Str.ofString "3") (hnm.w 7 (by decide)) (by boot_fact) (by boot_fact) (gO (by boot_fact))
 have ll:=gt g2
 have ha:aa aA (.lst ((ar ls7).map .str)) (.lst [.str (Str.ofString "load "++nm 7++Str.ofString " 3"), .str (Str.ofString "wheel 1 0 0")])=some (.lst ((ar ls7++[Str.ofString "load "++nm 7++Str.ofString " 3",Str.ofString "wheel 1 0 0"]).map .str)):=by
  rw[List.map_append]
  exact ix (by rw[List.length_map];show _+2≤1000000;omega)
 rw[gy,am]
 refine dH ?_
 show dP [some (.lst (ls.map Ld.t)),some (.lst (nmD nm)),none]=_
 unfold dP
 ktf_call(tF)
 refine(ck (show whS _ _ _=_ from hloop)).trans ?_
 k_search(hW,bp,n7,r7.a1,r7.a2,ha)
noncomputable def bT:SF:=(aE (ifS (bD (oD (aa eqD) (oD (aa bB) (vD 6) (cD (.int 2))) (cD (.int 0)))) (aU 9 (mk Fk (oD (aa aA) (vD 9) (bF (ae (oD (aa ixD) (bF (ae (cD (.str (Str.ofString "wheel 0 1 1"))) (ae (cD (.str (Str.ofString "load"))) (ae (oD (aa aA) (oD (aa aA) (cD (.str (Str.ofString "load "))) (oD (aa ixD) (oD (aa ixD) (vD 2) (cD (.int 0))) (cD (.int 0)))) (cD (.str (Str.ofString " 5")))) ao)))) (oD (aa bB) (oD (aa bz) (vD 6) (cD (.int 2))) (cD (.int 3)))) ao)))))
 nxS)
 (ifS (j6 (bD (ap db (ae (vD 9) (ae (vD 10) (ae (vD 8) (ae (vD 4) ao))))))) (bq (cD (.bl false)))
 nxS))
theorem u7{ls:List Ld}(ok:LdsOk ls)(h1:1≤ls.length)(h6:ls.length≤6){first one:Int}(hf:1≤first){n:Nat}{x:Str}{E ms:List Str}{kd:Str}(hb:Bad (ar ls) n x ms)(hk:jO ms=some kd)(hE:E.length≤100∧∀r∈E,Rok r)(h2:2≤((ar ls).take n++x::E).length){o0 o1 o3 o5 o7 o11:Option D}:
 ∃p9,bT [o0,o1,some (.lst (ls.map Ld.t)),o3,some (.int first),o5,some (.int one),o7,some (.int (n:Int)),some (.lst (((ar ls).take n++x::E).map .str)),some (.str kd),o11]=some (.nx [o0,o1,some (.lst (ls.map Ld.t)),o3,some (.int first),o5,some (.int one),o7,some (.int (n:Int)),p9,some (.str kd),o11]):=by
 obtain⟨l,r,el⟩:∃l r,ls=l::r:=by
  cases ls with
  |nil=>exact absurd h1 (by decide)
  |cons l r=>exact⟨l,r,rfl⟩
 have lok:=ok.ok l (by rw[el];exact List.mem_cons_self)
 have hat:atI (ls.map Ld.t) 0=some l.t:=by rw[el];exact ix0
 have t0:aa ixD l.t (.int 0)=some (.str l.name):=by unfold Ld.t;rw[lc];exact ix0
 have r5:=ldr (t:=Str.ofString " 5") (z:=Str.ofString "5") lok.nm (by boot_fact) (by boot_fact) (gO (by boot_fact))
 obtain⟨y,hy,ry⟩:∃y,atI [D.str (Str.ofString "wheel 0 1 1"), .str (Str.ofString "load"), .str (Str.ofString "load "++l.name++Str.ofString " 5")] (one/2%3)=some (.str y)∧Rok y:=by
  obtain q|q|q:one/2%3=0∨one/2%3=1∨one/2%3=2:=by omega
  · rw[q];exact⟨_,ix0,kh (by boot_fact)⟩
  · rw[q];exact⟨_,bV (n:=1) rfl rfl,kh (by boot_fact)⟩
  · rw[q];exact⟨_,bV (n:=2) rfl rfl,r5.rok⟩
 have ll:=gt ok.ok
 have rA:=jb ok.ok
 have ask:∀F:List Str,F.length≤101→(∀r∈F,Rok r)→2≤((ar ls).take n++x::F).length→db [.lst (((ar ls).take n++x::F).map .str), .str kd, .int (n:Int), .int first]=some (.bl true):=fun F hl hF q=>by
  have tx:Txs ((ar ls).take n++x::F):=qQ (by
   rw[List.length_append,List.length_cons,List.length_take]
   omega) (fun r h=>by
   rcases List.mem_append.mp h with h|h
   · exact rA r (List.mem_of_mem_take h)
   · rcases List.mem_cons.mp h with rfl|h
     · exact hb.rok
     · exact hF r h)
  exact mG tx q hk (hb.ref F tx) hf
 unfold bT
 by_cases c:one%2=0
 · have g:aa aA (.lst (((ar ls).take n++x::E).map .str)) (.lst [.str y])=some (.lst (((ar ls).take n++x::(E++[y])).map .str)):=by
    rw[show (ar ls).take n++x::(E++[y])=((ar ls).take n++x::E)++[y] by simp,List.map_append (l₁:=(ar ls).take n++x::E)]
    refine ix ?_
    rw[List.length_map,List.length_append,List.length_cons,List.length_take]
    show _+1≤1000000
    have:=hE.1
    omega
   have a:=ask (E++[y]) (by rw[List.length_append];have:=hE.1;show _+1≤101;omega) (fun r h=>by
    rcases List.mem_append.mp h with h|h
    · exact hE.2 r h
    · rw[List.mem_singleton.mp h];exact ry) (by
    rw[List.length_append,List.length_cons] at h2 ⊢
    rw[List.length_append]
    omega)
   generalize ((ar ls).take n++x::(E++[y])).map D.str=Z at g a
   generalize ((ar ls).take n++x::E).map D.str=Y at g
   refine⟨some (.lst Z), ?_⟩
   refine(ck (e1:=[o0,o1,some (.lst (ls.map Ld.t)),o3,some (.int first),o5,some (.int one),o7,some (.int (n:Int)),some (.lst Z),some (.str kd),o11]) ?_).trans ?_
   · skip
     k_search(decide_eq_true c,bp,hat,t0,r5.a1,r5.a2,hy,g)
   · skip
     k_search(a)
 · have a:=ask E (by have:=hE.1;omega) hE.2 h2
   generalize ((ar ls).take n++x::E).map D.str=Y at a
   refine⟨some (.lst Y), ?_⟩
   refine(ck (e1:=[o0,o1,some (.lst (ls.map Ld.t)),o3,some (.int first),o5,some (.int one),o7,some (.int (n:Int)),some (.lst Y),some (.str kd),o11]) ?_).trans ?_
   · skip
     k_search(decide_eq_false c)
   · skip
     k_search(a)
theorem CQ{ls:List Ld}(ok:LdsOk ls)(h1:1≤ls.length)(h6:ls.length≤6){nm:Nat→Str}(hnm:NmOk nm){first one:Int}(hf:1≤first){o0 o5 o7 o8 o9 o10 o11:Option D}:
 ∃p7 p8 p9 p10 p11,(lB0) [o0,some (.lst (nmD nm)),some (.lst (ls.map Ld.t)),some (.lst ((ar ls).map .str)),some (.int first),o5,some (.int one),o7,o8,o9,o10,o11]=some (.nx [o0,some (.lst (nmD nm)),some (.lst (ls.map Ld.t)),some (.lst ((ar ls).map .str)),some (.int first),o5,some (.int one),p7,p8,p9,p10,p11]):=by
 have hm:=rY (c:=one) (o:=113) (p:=1000039) (by decide) (by decide) (by decide) (by decide)
 have q0:=li one 113 1000039
 generalize qG one 113 1000039=v at hm q0
 have ll:=gt ok.ok
 have l2:2≤(ar ls).length:=by
  cases ls with
  |nil=>exact absurd h1 (by decide)
  |cons l r=>
   have w1:=(ok.ok l List.mem_cons_self).w1
   show 2≤(eY l++ar r).length
   rw[List.length_append,cv]
   omega
 have rA:=jb ok.ok
 have hpz:0<((ar ls).length:Int):=by omega
 obtain⟨n,hn,hlt⟩:∃n:Nat,v/2%((ar ls).length:Int)=(n:Int)∧n<(ar ls).length:=by
  have a:=Int.emod_nonneg (v/2) (show ((ar ls).length:Int)≠0 by omega)
  have b:=Int.emod_lt_of_pos (v/2) hpz
  exact⟨(v/2%((ar ls).length:Int)).toNat,by omega,by omega⟩
 obtain⟨r,x,hr,hF,hB⟩:=yJ ok h6 hlt (d:=v/400) (by omega)
 have hat:atI ((ar ls).map D.str) (n:Int)=some (.str r):=bV rfl (by rw[List.getElem?_map,hr];rfl)
 have sl:∀{m:Nat} {y:Str} {F:List Str},m≤(ar ls).length→F.length≤(ar ls).length→aa aA (.lst (((ar ls).take m).map .str)) (.lst [.str y])=some (.lst (((ar ls).take m++[y]).map .str))∧aa aA (.lst (((ar ls).take m++[y]).map .str)) (.lst (F.map .str))=some (.lst (((ar ls).take m++y::F).map .str)):=fun {m y F} hm hF=>by
  constructor
  · rw[List.map_append]
    exact ix (by rw[List.length_map,List.length_take];show _+1≤1000000;omega)
  · rw[show (ar ls).take m++y::F=((ar ls).take m++[y])++F by simp,List.map_append (l₁:=(ar ls).take m++[y])]
    exact ix (by rw[List.length_map,List.length_map,List.length_append,List.length_take];show _+1+_≤1000000;omega)
 have dl:∀m,((ar ls).drop m).length≤100∧∀r∈(ar ls).drop m,Rok r:=fun m=>⟨by rw[List.length_drop];omega,fun r h=>rA r (List.mem_of_mem_drop h)⟩
 have c3:=lT (f:=D.str) (xs:=ar ls) (k:=n)
 have c4:=iJ (f:=D.str) (xs:=ar ls) (k:=n+1)
 rw[show ((n+1:Nat):Int)=(n:Int)+1 by omega] at c4
 obtain⟨s1,s2⟩:=sl (m:=n) (y:=x) (F:=(ar ls).drop (n+1)) (by omega) (by rw[List.length_drop];omega)
 have len1:2≤((ar ls).take n++x::(ar ls).drop (n+1)).length:=by rw[List.length_append,List.length_cons,List.length_take,List.length_drop];omega
 have st4:∀G:SF,aE ((aU 7 (mk Fk (ap eI (ae (vD 6) (ae (cD (.int 113)) (ae (cD (.int 1000039)) ao))))))) (aE ((aU 8 (mk Fk (oD (aa bB) (oD (aa bz) (vD 7) (cD (.int 2))) (ap (aa bR) (ae (vD 3) ao)))))) (aE ((aU 9 (mk Fk (oD (aa aA) (oD (aa aA) (slD (aa cO) (vD 3) noO (atO (vD 8))) (bF (ae (ap gr (ae (oD (aa ixD) (vD 3) (vD 8)) (ae (oD (aa bz) (vD 7) (cD (.int 400))) ao))) ao))) (slD (aa cO) (vD 3) (atO (oD (aa aA) (vD 8) (cD (.int 1)))) noO))))) (aE ((aU 10 (mk Fk (cD (.str (Str.ofString "bad")))))) G))) [o0,some (.lst (nmD nm)),some (.lst (ls.map Ld.t)),some (.lst ((ar ls).map .str)),some (.int first),o5,some (.int one),o7,o8,o9,o10,o11]=G [o0,some (.lst (nmD nm)),some (.lst (ls.map Ld.t)),some (.lst ((ar ls).map .str)),some (.int first),o5,some (.int one),some (.int v),some (.int (n:Int)),some (.lst (((ar ls).take n++x::(ar ls).drop (n+1)).map .str)),some (.str mr),o11]:=fun G=>by
  generalize ((ar ls).take n++x::(ar ls).drop (n+1)).map D.str=Y at s2
  generalize ((ar ls).take n++[x]).map D.str=Y2 at s1 s2
  generalize ((ar ls).take n).map D.str=Y3 at c3 s1
  generalize ((ar ls).drop (n+1)).map D.str=Y4 at c4 s2
  refine(ck (e1:=[o0,some (.lst (nmD nm)),some (.lst (ls.map Ld.t)),some (.lst ((ar ls).map .str)),some (.int first),o5,some (.int one),some (.int v),o8,o9,o10,o11]) ?_).trans ?_
  · skip
    k_search(hm)
  refine(ck (e1:=[o0,some (.lst (nmD nm)),some (.lst (ls.map Ld.t)),some (.lst ((ar ls).map .str)),some (.int first),o5,some (.int one),some (.int v),some (.int (n:Int)),o9,o10,o11]) ?_).trans ?_
  · skip
    k_search(hn)
  refine(ck (e1:=[o0,some (.lst (nmD nm)),some (.lst (ls.map Ld.t)),some (.lst ((ar ls).map .str)),some (.int first),o5,some (.int one),some (.int v),some (.int (n:Int)),some (.lst Y),o10,o11]) ?_).trans ?_
  · skip
    k_search(bp,hat,hF,c3,c4,s1,s2)
  exact ck rfl
 by_cases c:v%2=1
 · obtain⟨m,y,ms,kd,hA,hk,hB2⟩:=As ok h6 h1 hnm (d:=v/2) (by omega)
   obtain⟨s3,s4⟩:=sl (m:=m) (y:=y) (F:=(ar ls).drop m) hB2.le (by rw[List.length_drop];omega)
   have c5:=lT (f:=D.str) (xs:=ar ls) (k:=m)
   have c6:=iJ (f:=D.str) (xs:=ar ls) (k:=m)
   have len2:2≤((ar ls).take m++y::(ar ls).drop m).length:=by rw[List.length_append,List.length_cons,List.length_take,List.length_drop];have:=hB2.le;omega
   obtain⟨p9,hT⟩:=u7 ok h1 h6 (one:=one) hf hB2 hk (dl m) len2 (o0:=o0) (o1:=some (.lst (nmD nm))) (o3:=some (.lst ((ar ls).map .str))) (o5:=o5) (o7:=some (.int v)) (o11:=some (.str y))
   refine⟨_,_,_,_,_,(st4 _).trans ((ck ?_).trans hT)⟩
   generalize ((ar ls).take m++y::(ar ls).drop m).map D.str=Y at s4
   generalize ((ar ls).take m++[y]).map D.str=Y2 at s3 s4
   generalize ((ar ls).take m).map D.str=Y3 at c5 s3
   generalize ((ar ls).drop m).map D.str=Y4 at c6 s4
   k_search(decide_eq_true c,hA,c5,c6,s3,s4)
 · obtain⟨p9,hT⟩:=u7 ok h1 h6 (one:=one) hf hB (kd:=mr) rfl (dl (n+1)) len1 (o0:=o0) (o1:=some (.lst (nmD nm))) (o3:=some (.lst ((ar ls).map .str))) (o5:=o5) (o7:=some (.int v)) (o11:=o11)
   refine⟨_,_,_,_,_,(st4 _).trans ((bx ?_).trans hT)⟩
   k_search(decide_eq_false c)
theorem At{n:Str}(h:IsW n):Ld.Ok ⟨n,5,[⟨1,2,3⟩,⟨100,0,9⟩,⟨100,1,1⟩]⟩:=⟨h,show (1:Int)≤5 by decide,show (5:Int)≤12 by decide,show 1≤3 by decide,show 3≤8 by decide,fun w hw=>by
 simp only[List.mem_cons,List.not_mem_nil,or_false] at hw
 rcases hw with rfl|rfl|rfl<;>exact⟨by decide,by decide,by decide,by decide,by decide⟩,show (200:Int)≤200 by decide⟩
theorem yS(ns:List Int)(hlen:ns.length≤63)(d:D)(hd:d= .lst (ns.map D.int)∨d= .fz (ns.map D.int)):uC [d]=some (.bl true):=by
 obtain⟨nm,ls0,hnm,lok0,l60,hn0,hLd⟩:=yO hd (most:=6) (by decide)
 have hLd:gK [d, .int 6]=some (.tup [.lst (nmD nm), .lst (ls0.map Ld.t)]):=hLd
 have n0:atI (nmD nm) 0=some (.str (nm 0)):=lR (nm:=nm) (i:=0) (by decide)
 have n7:atI (nmD nm) 7=some (.str (nm 7)):=lR (nm:=nm) (i:=7) (by decide)
 have eq0:=CN fun l hl=>ol (fun c hc=>tK ((lok0.ok l hl).nm.low c hc))
 obtain⟨ls,lok,h1,h6,hn,hst⟩:∃ls:List Ld,LdsOk ls∧1≤ls.length∧ls.length≤6∧ls.map Ld.name=(List.range ls.length).map nm∧∀o3 o4 o5 o6 o7 o8 o9 o10 o11:Option D,((ifS (bD (oD (aa eqD) (vD 2) (bF ao))) (aU 2 (mk Fk (bF (ae (cu (ae (oD (aa ixD) (vD 1) (cD (.int 0))) (ae (cD (.int 5)) (ae (bF (ae (cu (ae (cD (.int 1)) (ae (cD (.int 2)) (ae (cD (.int 3)) ao)))) (ae (cu (ae (cD (.int 100)) (ae (cD (.int 0)) (ae (cD (.int 9)) ao)))) (ae (cu (ae (cD (.int 100)) (ae (cD (.int 1)) (ae (cD (.int 1)) ao)))) ao)))) ao)))) ao))))
  nxS)) [some d,some (.lst (nmD nm)),some (.lst (ls0.map Ld.t)),o3,o4,o5,o6,o7,o8,o9,o10,o11]=some (.nx [some d,some (.lst (nmD nm)),some (.lst (ls.map Ld.t)),o3,o4,o5,o6,o7,o8,o9,o10,o11]):=by
  cases ls0 with
  |nil=>
   refine⟨[⟨nm 0,5,[⟨1,2,3⟩,⟨100,0,9⟩,⟨100,1,1⟩]⟩],⟨fun l hl=>by rw[List.mem_singleton.mp hl];exact At (hnm.w 0 (by decide)),by simp⟩,Nat.le_refl _,by show 1≤6;decide,rfl,fun o3 o4 o5 o6 o7 o8 o9 o10 o11=> ?_⟩
   have eq0:aa eqD (.lst (List.map Ld.t [])) (.lst [])=some (.bl true):=eq0
   k_search(eq0,bp,n0)
   rfl
  |cons l r=>
   refine⟨l::r,lok0,by show 1≤r.length+1;omega,l60,hn0,fun o3 o4 o5 o6 o7 o8 o9 o10 o11=> ?_⟩
   have eq0:aa eqD (.lst (List.map Ld.t (l::r))) (.lst [])=some (.bl false):=eq0
   generalize List.map Ld.t (l::r)=L at eq0
   k_search(eq0)
 have ll:=gt lok.ok
 have l2:2≤(ar ls).length:=by
  cases ls with
  |nil=>exact absurd h1 (by decide)
  |cons l r=>
   have w1:=(lok.ok l List.mem_cons_self).w1
   show 2≤(eY l++ar r).length
   rw[List.length_append,cv]
   omega
 have rA:=jb lok.ok
 have hW:=uU lok.ok (by omega)
 have hc7:cM [d, .int 7]=some (.int (gR ns 7)):=qI hd 7
 have hc8:cM [d, .int 8]=some (.int (gR ns 8)):=qI hd 8
 have hln:aa bR [d]=some (.int ns.length):=by rw[am];rcases hd with rfl|rfl<;>simp[bR,ng]
 obtain⟨first,hfst,hf⟩:∃first:Int,1+gR ns 7%1000=first∧1≤first:=⟨_,rfl,by omega⟩
 have w7:=hnm.w 7 (by decide)
 have r7:=ldr (t:=Str.ofString " 3") (z:=Str.ofString "3") w7 (by boot_fact) (by boot_fact) (gO (by boot_fact))
 obtain⟨z7,hz7,ez7⟩:=r7.wds
 have bl3:df [loadS,nm 7,z7] [loadS,wheelS]=true∧df [loadS,nm 7,z7] [wheelS]=false:=⟨by rw[oy];decide+kernel,tN⟩
 obtain⟨ls7,s6,sok,hS⟩:=D7 hnm h6 lok.ok hn
 have ll7:=gt sok.ok
 have hA7:=mG (R:=ar ls7++[Str.ofString "load "++nm 7++Str.ofString " 3",Str.ofString "wheel 1 0 0"]) (n:=(ar ls7).length) (ms:=dB) (k:=mr) (first:=first) (qQ (by rw[List.length_append];show _+2≤200;omega) (fun r h=>by
  rcases List.mem_append.mp h with h|h
  · exact jb sok.ok r h
  · simp only[List.mem_cons,List.not_mem_nil,or_false] at h
    rcases h with rfl|rfl
    · exact r7.rok
    · exact kh (by boot_fact))) (by rw[List.length_append];show 2≤_+2;omega) rfl (u5 sok (by omega) (qQ (by rw[List.length_append];show _+2≤200;omega) (fun r h=>by
  rcases List.mem_append.mp h with h|h
  · exact jb sok.ok r h
  · simp only[List.mem_cons,List.not_mem_nil,or_false] at h
    rcases h with rfl|rfl
    · exact r7.rok
    · exact kh (by boot_fact))).rws (by show df (Txt.split _ _) _=_;rw[ez7];exact bl3.1) (fun _=>by show df (Txt.split _ _) _=_;rw[ez7];exact bl3.2) (qO (by rw[List.length_map];omega))) hf
 have len7:((ar ls7++[Str.ofString "load "++nm 7++Str.ofString " 3",Str.ofString "wheel 1 0 0"]).map D.str).length=(ar ls7).length+2:=by rw[List.length_map,List.length_append];rfl
 obtain⟨iv,hiv,hA8⟩:∃iv:Int,aa jI [.bl (decide ((ls.length:Int)<6))]=some (.int iv)∧db [.lst ((ar ls++[Str.ofString "load "++nm 7++Str.ofString " 3"]).map .str), .str mr, .int (((ar ls).length:Int)+iv), .int first]=some (.bl true):=by
  have tx:Txs (ar ls++[Str.ofString "load "++nm 7++Str.ofString " 3"]):=qQ (by rw[List.length_append];show _+1≤200;omega) (fun r h=>by
   rcases List.mem_append.mp h with h|h
   · exact rA r h
   · rw[List.mem_singleton.mp h];exact r7.rok)
  have t2:2≤(ar ls++[Str.ofString "load "++nm 7++Str.ofString " 3"]).length:=by rw[List.length_append];omega
  refine⟨_,u4 _, ?_⟩
  by_cases c:(ls.length:Int)<6
  · rw[decide_eq_true c,if_pos rfl,show ((ar ls).length:Int)+1=(((ar ls).length+1+0:Nat):Int) by omega]
    refine mG tx t2 (ms:=dB) rfl ?_ hf
    have ew:Str.ofString "load "++nm 7++Str.ofString " 3"=iW ⟨nm 7,3,[]⟩:=Ar (zs:=[ts 3]) u6 (by simp) (by boot_fact)
    rw[ew] at tx ⊢
    exact yG (l:=⟨nm 7,3,[]⟩) (E:=[]) lok (by omega) ⟨w7,show (1:Int)≤3 by decide,show (3:Int)≤12 by decide,Nat.zero_le 8,fun w hw=>(by cases hw),show (0:Int)≤200 by decide⟩ (by
     rw[hn]
     intro q
     obtain⟨a,ha,q⟩:=List.mem_map.mp q
     have ha:=List.mem_range.mp ha
     have:=hnm.inj a 7 (by omega) (by decide) q
     omega) tx.rws (.inl rfl) (lV rfl)
  · rw[decide_eq_false c,if_neg (by decide),Int.add_zero]
    exact mG tx t2 (ms:=dB) rfl (u5 lok h6 tx.rws (by show df (Txt.split _ _) _=_;rw[ez7];exact bl3.1) (fun _=>by show df (Txt.split _ _) _=_;rw[ez7];exact bl3.2) (qO (by rw[List.length_map];omega))) hf
 have ad8:aa aA (.lst ((ar ls).map .str)) (.lst [.str (Str.ofString "load "++nm 7++Str.ofString " 3")])=some (.lst ((ar ls++[Str.ofString "load "++nm 7++Str.ofString " 3"]).map .str)):=by
  rw[List.map_append (l₁:=ar ls)]
  exact ix (by rw[List.length_map];show _+1≤1000000;omega)
 obtain⟨c,hc⟩:∃c,gR ns 8+(ns.length:Int)=c:=⟨_,rfl⟩
 have hsl:aa cO d (some 8) (some 24)=some (.lst ((vM ns (some ((8:Nat):Int)) (some ((24:Nat):Int))).map D.int)):=by
  rw[am]
  rcases hd with rfl|rfl
  · show some (D.lst (lJ _ _ _))=_
    rw[←sh]
    rfl
  · show some (D.lst (lJ _ _ _))=_
    rw[←sh]
    rfl
 have cl:=yP (xs:=ns) (lo:=some ((8:Nat):Int)) (hi:=some ((24:Nat):Int))
 generalize vM ns (some ((8:Nat):Int)) (some ((24:Nat):Int))=ys at hsl cl
 have hadd:aa aA (.lst [.int c]) (.lst (ys.map D.int))=some (.lst ((c::ys).map .int)):=ix (a:=[.int c]) (by rw[List.length_map];show 1+_≤1000000;omega)
 generalize hRR:(ar ls7++[Str.ofString "load "++nm 7++Str.ofString " 3",Str.ofString "wheel 1 0 0"]).map D.str=S7 at hS hA7 len7
 obtain⟨e',hloop,o6,o7,o8,o9,o10,o11,rfl⟩:=i7 (g:=nmG 6) (b:=lB0) (ds:=(c::ys).map .int) (env:=[some d,some (.lst (nmD nm)),some (.lst (ls.map Ld.t)),some (.lst ((ar ls).map .str)),some (.int first),some (.lst S7),none,none,none,none,none,none])
  (fun _ e=>∃o6 o7 o8 o9 o10 o11,e=[some d,some (.lst (nmD nm)),some (.lst (ls.map Ld.t)),some (.lst ((ar ls).map .str)),some (.int first),some (.lst S7),o6,o7,o8,o9,o10,o11])
  ⟨none,none,none,none,none,none,rfl⟩
  (fun i z e hz he=>by
   obtain⟨o6,o7,o8,o9,o10,o11,rfl⟩:=he
   rw[List.getElem?_map] at hz
   obtain⟨one,_,rfl⟩:=Option.map_eq_some_iff.mp hz
   obtain⟨p7,p8,p9,p10,p11,hb⟩:=CQ lok h1 h6 hnm (one:=one) hf (o0:=some d) (o5:=some (.lst S7)) (o7:=o7) (o8:=o8) (o9:=o9) (o10:=o10) (o11:=o11)
   exact⟨_,rfl,_,hb,_,_,_,_,_,_,rfl⟩)
 have e72:((ar ls7).length:Int)+2-2=((ar ls7).length:Int):=by omega
 have len7':(S7.length:Int)-2=((ar ls7).length:Int):=by rw[len7];omega
 rw[uC,am]
 refine dH ?_
 show uB [some d,none,none,none,none,none,none,none,none,none,none,none]=_
 unfold uB
 ktf_call(hLd)
 refine(ck (hst _ _ _ _ _ _ _ _ _)).trans ?_
 ktf_call(hW)
 ktf_call(hc7,hfst)
 ktf_call(hS)
 ktf_call(len7',hA7)
 generalize ((ar ls++[Str.ofString "load "++nm 7++Str.ofString " 3"]).map D.str)=S8 at ad8 hA8
 ktf_call(bp,n7,r7.a1,r7.a2,ad8,hiv,hA8)
 ktf_call(hc8,hln,hc,hsl,hadd,iP,hloop)
 k_search(ba)
local macro_rules | `(tactic| o_reads) => `(tactic| first | exact Or.inl rfl | exact Or.inr rfl)
def qR(K:W.Frag):Sp:=fun vs H Q _=>∃(a:Addr) (ns:List Int),vs=[.ref a]∧SqL K H a (ns.map V.int)∧ns.length≤63∧∀H',Q (.bl true) H'
section
variable{P:Program}{w:World}{K:W.Frag}{mg:Str→Option Value}{base:Heap}
theorem fW{f:Addr}{fd:FuncData}(F:Fun K "__init__" "TextError.__init__" cG f fd)(w_WayError:XBase K (clA K "WayError"))(n_WayError:mg "WayError"=some (.ref (clA K "WayError"))):
 FnOk P w K mg base CX0 1 f fd ["self","row"] (bi K):=by
 refine F.ok kW (fun vs H Q E h=> ?_) (fun cdv A outer s H vs Q E hr h=> ?_)
 · obtain⟨e,C,n,rfl,_⟩:=h
   rfl
 obtain⟨e,C,n,rfl,he,hc,hn,k⟩:=h
 refine⟨_,(al (fN (wI w_WayError rfl n_WayError (ad (pv 0) (ad ax ai))))
  (av (zp (f:="row") (pv 0) (pv 1) rfl))), ?_⟩
 refine⟨_,rfl,e,C,none,_,rfl,he,hc, ?_⟩
 refine⟨_,rfl,_,rfl,e,C,none,rfl,he,hc,hn, .inl ⟨rfl,fun dx hd=> ?_⟩⟩
 have ne:dx≠e:=Ne.symm (aG he hd)
 refine k dx _ hd ne (fun b o hb eb=> ?_) aI ?_
 · rw[aJ hb,aJ (aG eb hd)];exact eb
 · rw[aJ ne,aI]
theorem Ev{i:Nat}{a C:Addr}{d:Option Addr}{ms fs:List Str}{n:Str}{b:Bool}{σ:St}{H:Hp}{Q:Bool→Hp→Prop}(xk:XKd K kNames C ms fs)(hn:n∈kNames)(hb:ms.contains n=b)(hA:ExAt H a C d)(hd:∀dx,d=some dx→∃fs,H dx=some (exF dx fs))(hs:σ[i]? =some (some (.ref a)))(q:Q b H):
 tB (tCB (wL K) (bO (iX i) (bO (tC (.ref (clA K n))) iC))) σ H Q:=
 ⟨_,hs,a,C,d,_,b,rfl,hA,hd,xk.is,fun u r=>(by obtain rfl:u=Value.ref (clA K n):=r;rw[←hb];exact xk.kit n hn),b,rfl,q⟩
theorem Ew{i:Nat}{a C:Addr}{d:Option Addr}{ms fs:List Str}{σ:St}{H:Hp}{Q:Bool→Hp→Prop}(xk:XKd K kNames C ms fs)(hA:ExAt H a C d)(hd:∀dx,d=some dx→∃fs,H dx=some (exF dx fs))(hs:σ[i]? =some (some (.ref a)))(q:Q true H):
 tB (tCB (wL K) (bO (iX i) (bO (tC (.ty "ValueError")) iC))) σ H Q:=
 ⟨_,hs,a,C,d,_,true,rfl,hA,hd,xk.is,fun u r=>(by obtain rfl:u=Value.type "ValueError":=r;exact xk.val),true,rfl,q⟩
theorem ExAt.same{H H':Hp}{a C:Addr}{d:Option Addr}(h:ExAt H a C d)(S:Same H H'):ExAt H' a C d:=h.imp (fun e=>S _ _ e) fun⟨T,e⟩=>⟨T,S _ _ e⟩
theorem CS{i:Int}:ju [.int i]=some (.bl true):=by
 rw[ju,am]
 have h1:aa (isT "int") [.int i]=some (.bl true):=by rw[am];rfl
 have h2:aa (isT "bool") [.int i]=some (.bl false):=by rw[am];rfl
 show (eR [some (.int i)]).bind _=_
 unfold eR
 show ((sP _ _ [some (.int i)]).bind _).bind _=_
 unfold sP w4 ap ae ao vD
 show (((aa (isT "int") [.int i]).bind _).bind _).bind _=_
 rw[h1]
 show (((((aa (isT "bool") [.int i]).bind _)).bind _).bind _)=_
 rw[h2]
 rfl
abbrev isE(K:W.Frag)(n:Str):TE:=tCB (wL K) (bO (iX 2) (bO (tC (.ref (clA K n))) iC))
abbrev isx(K:W.Frag)(n:Str):TT:=tB (isE K n)
theorem vN{a C:Addr}{d:Option Addr}{ms fs:List Str}{n:Str}{σ:St}{H:Hp}{Q:VK}(xk:XKd K kNames C ms fs)(hn:n∈kNames)(hA:ExAt H a C d)(hd:∀dx,d=some dx→∃fs,H dx=some (exF dx fs))(hs:σ[2]? =some (some (.ref a)))(q:Q (.bl (ms.contains n)) H):isE K n σ H Q:=
 ⟨_,hs,a,C,d,_,_,rfl,hA,hd,xk.is,fun u r=>(by obtain rfl:u=Value.ref (clA K n):=r;exact xk.kit n hn),q⟩
abbrev tNo:TS:=sr (vf (bO (tC (.str (Str.ofString ""))) (bO (tC (.int 0)) iC)))
def kindL:List Str:=["bad","twice","long","near","none","load"]
def u8(K:W.Frag):TS:=oG (vS (tOr (vP (isx K "TextError")) (tOr (vP (tB (tCB (wL K) (bO (iX 2) (bO (tC (.ty "ValueError")) iC))))) (vP (tB (jy (gA K) [] E0 (bO (wG K (iX 2) "row") iC)))))) tNo tT)
 (oG (mL (v3 (bO (isE K "BadRow") (bO (isE K "Twice") (bO (isE K "TooLong") iC)))) (iD 4))
 (oG (mL (tOp (uk K) (iX 4) (v3 (bO (isE K "TooNear") (bO (isE K "NoBridge") (bO (isE K "NoLoad") iC))))) (iD 4))
 (oG (vS (vY (tOp (BL K) (tBM K "list" (AU K) (iX 4) (bO (tC (.bl true)) iC)) (tC (.int 1)))) tNo tT)
 (sr (vf (bO (tOp (rIx K) (v3 (bO (tC (.str (Str.ofString "bad"))) (bO (tC (.str (Str.ofString "twice"))) (bO (tC (.str (Str.ofString "long"))) (bO (tC (.str (Str.ofString "near"))) (bO (tC (.str (Str.ofString "none"))) (bO (tC (.str (Str.ofString "load"))) iC))))))) (tBM K "list" (AV K) (iX 4) (bO (tC (.bl true)) iC))) (bO (wG K (iX 2) "row") iC)))))))
def kBs(ms:List Str):List Bool:=[ms.contains "BadRow",ms.contains "Twice",ms.contains "TooLong",ms.contains "TooNear",ms.contains "NoBridge",ms.contains "NoLoad"]
structure KindOk(ms:List Str)(kd:Str)(j:Nat):Prop where
 te:ms.contains "TextError"=true
 we:ms.contains "WayError"=true
 one:(kBs ms).count true=1
 at_:(kBs ms)[j]? =some true
 low:∀m,m<j→(kBs ms)[m]? =some false
 kd:kindL[j]? =some kd
 few:j<1000
theorem Au{ms:List Str}{kd:Str}(h:jO ms=some kd):∃j,KindOk ms kd j:=by
 unfold jO at h
 split at h
 · rename_i e;subst e;cases h
   exact⟨0,by decide,by decide,by decide,by decide,by decide,rfl,by decide⟩
 split at h
 · rename_i e;subst e;cases h
   exact⟨1,by decide,by decide,by decide,by decide,by decide,rfl,by decide⟩
 split at h
 · rename_i e;subst e;cases h
   exact⟨2,by decide,by decide,by decide,by decide,by decide,rfl,by decide⟩
 · cases h
theorem Ey{c:Bool}{p q:Prop}(h:c=true)(k:p):if c=true then p else q:=by subst h;exact k
theorem D8{c:Bool}{p q:Prop}(h:c=false)(k:q):if c=true then p else q:=by subst h;exact k
theorem yT{σ:St}{i:Nat}{v:V}(h:i<σ.length):(σ.set i (some v))[i]? =some (some v):=by rw[List.getElem?_set,if_pos rfl,if_pos h]
theorem Av{a C dx:Addr}{gs:List (Str×V)}{n:Int}{ms:List Str}{kd:Str}{j:Nat}{σ:St}{H:Hp}{D:Ends}(ko:KindOk ms kd j)(xk:XKd K kNames C ms ["row"])(hA:ExAt H a C (some dx))(h2:H dx=some (exF dx gs))(l:gs.lookup ("row":Str)=some (.int n))(hs:σ[2]? =some (some (.ref a)))(hl:4<σ.length)(q:∀p H',Same H H'→H' p=some (.tup [.str kd, .int n])→D.rt (.ref p) H'):u8 K D σ H:=by
 have hd:∀dy,some dx=some dy→∃fs,H dy=some (exF dy fs):=fun dy e=>by cases e;exact⟨gs,h2⟩
 have mono:∀{H':Hp},Same H H'→∀dy,some dx=some dy→∃fs,H' dy=some (exF dy fs):=fun S dy e=>by cases e;exact⟨gs,S _ _ h2⟩
 refine Ev (n:="TextError") (b:=true) xk (by decide) ko.te hA hd hs (Bz ?_)
 refine Ew xk hA hd hs (Bz ?_)
 refine⟨_,hs,a,C,dx,gs, .int n,rfl,hA,h2,xk.is.cls,xk.na _ (by simp),l,fun _=>False,[.int n], .bl true,rfl, .cons (.int n) .nil,CS,fun v H1 S1 r=> ?_⟩
 cases (show Rd K kNames _ H1 v (.bl true) from r)
 refine⟨true,rfl,Bz ?_⟩
 have A1:=ExAt.same hA S1
 refine vN (n:="BadRow") xk (by decide) A1 (mono S1) hs ?_
 refine vN (n:="Twice") xk (by decide) A1 (mono S1) hs ?_
 refine vN (n:="TooLong") xk (by decide) A1 (mono S1) hs ?_
 refine⟨(by show 3≤sizeLine;decide),fun p hp=> ?_⟩
 have S2:=S1.trans (aV hp (.lst [.bl (ms.contains "BadRow"), .bl (ms.contains "Twice"), .bl (ms.contains "TooLong")]))
 have A2:=ExAt.same hA S2
 have hs1:(σ.set 4 (some (V.ref p)))[2]? =some (some (.ref a)):=by rw[List.getElem?_set_ne (by decide)];exact hs
 refine⟨.ref p,yT hl, ?_⟩
 refine vN (n:="TooNear") xk (by decide) A2 (mono S2) hs1 ?_
 refine vN (n:="NoBridge") xk (by decide) A2 (mono S2) hs1 ?_
 refine vN (n:="NoLoad") xk (by decide) A2 (mono S2) hs1 ?_
 refine⟨(by show 3≤sizeLine;decide),fun p2 hp2=> ?_⟩
 have np:p≠p2:=aG aI hp2
 have S3:=S2.trans (aV hp2 (.lst [.bl (ms.contains "TooNear"), .bl (ms.contains "NoBridge"), .bl (ms.contains "NoLoad")]))
 refine .inl (.inr (.inr ⟨p,p2,_,_,rfl,rfl,(by rw[aJ np];exact aI),aI,(by show 3+3≤sizeLine;decide),fun p3 hp3=> ?_⟩))
 have S4:=S3.trans (aV hp3 (.lst ([.bl (ms.contains "BadRow"), .bl (ms.contains "Twice"), .bl (ms.contains "TooLong")]++[.bl (ms.contains "TooNear"), .bl (ms.contains "NoBridge"), .bl (ms.contains "NoLoad")])))
 generalize hH4:upd _ p3 _=H4 at S4 ⊢
 have h3:H4 p3=some (.lst ((kBs ms).map V.bl)):=by rw[←hH4];exact aI
 have hs2:((σ.set 4 (some (V.ref p))).set 4 (some (V.ref p3)))[2]? =some (some (.ref a)):=by rw[List.getElem?_set_ne (by decide)];exact hs1
 have hs4:((σ.set 4 (some (V.ref p))).set 4 (some (V.ref p3)))[4]? =some (some (.ref p3)):=yT (by rw[List.length_set];exact hl)
 refine⟨.ref p3,hs4, .inl ⟨rfl,_,SqL.of h3⟩,⟨p3,kBs ms,rfl,rfl,SqL.of h3, .inl ⟨_,_,rfl,rfl,⟨_,rfl,D8 (by rw[ko.one];rfl) ?_⟩⟩⟩⟩
 refine⟨(by show 6≤sizeLine;decide),fun p5 hp5=> ?_⟩
 have n35:p3≠p5:=aG h3 hp5
 have S5:=S4.trans (aV hp5 (.lst (kindL.map V.str)))
 have h35:upd H4 p5 (.lst (kindL.map V.str)) p3=some (.lst ((kBs ms).map V.bl)):=by rw[aJ n35];exact h3
 refine⟨.ref p3,hs4, .inl ⟨rfl,_,SqL.of h35⟩,⟨p3,kBs ms,j,rfl,rfl,SqL.of h35,ko.few,ko.at_,ko.low, .inl ⟨p5,kindL.map V.str,j, .str kd,rfl,rfl,SqL.of aI, ?_, ?_⟩⟩⟩
 · exact y4 (by rw[List.getElem?_map,ko.kd];rfl)
 · refine⟨_,hs2,a,C,dx,gs, .int n,rfl,ExAt.same hA S5,S5 _ _ h2,xk.is.cls,xk.na _ (by simp),l,(by show 2≤sizeLine;decide),fun p6 hp6=> ?_⟩
   exact q p6 _ (S5.trans (aV hp6 _)) aI
theorem yU{x:Ex}{d:D}(h:tD x=some d):∃(n:Int) (ms:List Str) (kd:Str) (j:Nat),x=⟨ms,[("row", .int n)]⟩∧d= .tup [.str kd, .int n]∧KindOk ms kd j:=by
 unfold tD at h
 obtain⟨kd,hk,h⟩:=bnd h
 obtain⟨j,ko⟩:=Au hk
 split at h
 · rename_i nm r e
   split at h
   · rename_i hn
     cases h
     obtain⟨ms,fs⟩:=x
     dsimp only at e
     subst e hn
     exact⟨r,ms,kd,j,rfl,rfl,ko⟩
   · cases h
 · cases h
section
seal PE PA PS PSs PT
theorem oz{f:Addr}{fd:FuncData}(F:Fun K "_law_refused" "_law_refused" dN f fd)(gx_loads_of:GotB P w K mg base 9 "loads_of" ["text"] (mj K))(gx_loads_from:GotB P w K mg base 8 "loads_from" ["rows","first"] (iV K))(g_law_number:Got P w K mg base 1 "_law_number" ["_law_found"] (gA K))(d_WayError:XKd K kNames (clA K "WayError") ["WayError"] [])(d_BadRow:XKd K kNames (clA K "BadRow") ["BadRow","TextError","WayError"] ["row"])(d_Twice:XKd K kNames (clA K "Twice") ["Twice","TextError","WayError"] ["row"])(d_TooLong:XKd K kNames (clA K "TooLong") ["TooLong","TextError","WayError"] ["row"])(d_TextError:XKd K kNames (clA K "TextError") ["TextError","WayError"] ["row"])(d_TooNear:XKd K kNames (clA K "TooNear") ["TooNear","TextError","WayError"] ["row"])(d_NoBridge:XKd K kNames (clA K "NoBridge") ["NoBridge","TextError","WayError"] ["row"])(d_NoLoad:XKd K kNames (clA K "NoLoad") ["NoLoad","TextError","WayError"] ["row"])(n_WayError:mg "WayError"=some (.ref (clA K "WayError")))(n_BadRow:mg "BadRow"=some (.ref (clA K "BadRow")))(n_Twice:mg "Twice"=some (.ref (clA K "Twice")))(n_TooLong:mg "TooLong"=some (.ref (clA K "TooLong")))(n_TextError:mg "TextError"=some (.ref (clA K "TextError")))(n_TooNear:mg "TooNear"=some (.ref (clA K "TooNear")))(n_NoBridge:mg "NoBridge"=some (.ref (clA K "NoBridge")))(n_NoLoad:mg "NoLoad"=some (.ref (clA K "NoLoad")))(z_isinstance:mg "isinstance"=none)(z_ValueError:mg "ValueError"=none):
 FnOk P w K mg base CX0 10 f fd ["_law_rows","_law_first"] (iu K):=by
 refine F.ok dh (fun vs H Q E h=>bu h) (fun cdv A outer s H vs Q E hr h=> ?_)
 have hu:=hr.units
 refine⟨_,(al (aC (i:=2) dh.nd rfl (by o_reads) dU)
  (al (by exact Ci zS (Ch (by intro _;exact(aH (zh (K:=K) rfl (by exact hu)) (pv 1) aj (aO _))) (xM gx_loads_of hr (by o_reads) (by rfl) (by intro _;exact(ad (BO (K:=K) rfl PySem.F.plainAttrs_str PySem.F.slot_str_join PySem.F.type_str_join (ww (K:=K) rfl) ax (ad (pv 0) ai)) ai))) (xM gx_loads_from hr (by o_reads) (by rfl) (by intro _;exact(ad (pv 0) (ad (pv 1) ai))))) (by intro _;exact(gP rfl n_WayError)) d_WayError.is.cls d_WayError.ty (by intro _;exact(av (aC (i:=2) dh.nd rfl (by o_reads) (pv 3)))) dh.nd (i:=3) (by rfl) (by rfl))
  (al (br (PW.pt (ij (gM (e7 (aF gF rfl z_isinstance bY (ad (pv 2) (ad (gP rfl n_TextError) ai))))) (ij (gM (e7 (aF gF rfl z_isinstance bY (ad (pv 2) (ad (pO (v:= .ty "ValueError") rfl z_ValueError qx rfl) ai))))) (ig (gM (e7 (bb g_law_number hr (by o_reads) rfl (ad (ue (f:="row") (pv 2) rfl) ai)))))))) (av (aL (bA (ad ax (ad aj ai))))) aM)
  (al (aC (i:=4) dh.nd rfl (by o_reads) (aX (ad (aF gF rfl z_isinstance bY (ad (pv 2) (ad (gP rfl n_BadRow) ai))) (ad (aF gF rfl z_isinstance bY (ad (pv 2) (ad (gP rfl n_Twice) ai))) (ad (aF gF rfl z_isinstance bY (ad (pv 2) (ad (gP rfl n_TooLong) ai))) ai)))))
  (al (aC (i:=4) dh.nd rfl (by o_reads) (aq aw (pv 4) (aX (ad (aF gF rfl z_isinstance bY (ad (pv 2) (ad (gP rfl n_TooNear) ai))) (ad (aF gF rfl z_isinstance bY (ad (pv 2) (ad (gP rfl n_NoBridge) ai))) (ad (aF gF rfl z_isinstance bY (ad (pv 2) (ad (gP rfl n_NoLoad) ai))) ai))))))
  (al (br (aH (mQ hu) (d3 PySem.F.plainAttrs_list PySem.F.slot_list_count PySem.F.type_list_count (zU hu) (pv 4) (ad lY ai)) aj (aO _)) (av (aL (bA (ad ax (ad aj ai))))) aM)
  (av (aL (bA (ad (aN aD (aX (ad ax (ad ax (ad ax (ad ax (ad ax (ad ax ai))))))) (d3 PySem.F.plainAttrs_list PySem.F.slot_list_index PySem.F.type_list_index (zV hu) (pv 4) (ad lY ai)) (fun _ _=>rfl)) (ad (ue (f:="row") (pv 2) rfl) ai))))))))))), ?_⟩
 obtain⟨L,ds,d,hl,r,hf,k⟩:=h
 have fin:∀(σ:St) (Hc:Hp) (x:Ex),σ.length=5→Same H Hc→tD x=some d→∀(C:Addr) (dd:Option Addr) (H1:Hp),Same Hc H1→RdX K kNames C dd H1 x→∃C',Value.ref C= .ref C'∧W.subIn K (.ref C') (.ref (clA K "WayError"))=some true∧(∀dx,dd=some dx→∃fs,H1 dx=some (exF dx fs))∧∀a H',Hc a=none→dd≠some a→Lft a H1 H'→ExAt H' a C' dd→
  (mL (iX 3) (iD 2)) {nx:=fun σ2 H2=>u8 K {nx:=fun _ H'=>Q .non H',rt:=Q} (σ2.set 3 none) H2,rt:=fun _ _=>False} (σ.set 3 (some (.ref a))) H':=by
  intro σ Hc x hσ S hx C dd H1 S1 hrd
  obtain⟨n,ms,kd,j,rfl,rfl,ko⟩:=yU hx
  obtain⟨dx,gs,ed,e2,xk,fs⟩:=hrd
  subst ed
  obtain⟨v,lv,rv⟩:=fs ("row", .int n) (List.mem_singleton.mpr rfl)
  cases rv
  have xk:XKd K kNames C ms ["row"]:=xk
  refine⟨C,rfl, ?_,fun dy e=>(by cases e;exact⟨gs,e2⟩),fun a H' ha na lf hA=> ?_⟩
  · rw[xk.sub "WayError" (by decide)]
    exact congrArg some ko.we
  · have nx:dx≠a:=fun z=>na (by rw[z])
    refine⟨.ref a,by rw[List.getElem?_set,if_pos rfl,if_pos (by omega)], ?_⟩
    refine Av ko xk hA (lf _ _ nx e2) lv ?_ (by rw[List.length_set,List.length_set,List.length_set];omega) fun p H2 S2 hp=>k _ _ (fun b o e=> ?_) (.tup hp (.cons (.str kd) (.cons (.int n) .nil)))
    · rw[List.getElem?_set_ne (by decide),List.getElem?_set,if_pos rfl,if_pos (by rw[List.length_set];omega)]
    · have e1:=S1 _ _ (S _ _ e)
      exact S2 _ _ (lf b o (aG (S _ _ e) ha) e1)
 obtain⟨d0,d1,rfl⟩:∃d0 d1,ds=[d0,d1]:=by
  match ds,hl with
  |[x,y],_=>exact⟨x,y,rfl⟩
 obtain⟨v0,v1,rfl,r0,r1⟩:=nv r
 have he:∀{H':Hp},Same H H'→EnvR K kNames L [some d0,some d1] [some v0,some v1,some .non,none,none] H':=fun S i d' e=>by
  match i,e with
  |0,e=>cases e;exact⟨v0,rfl,r0.same S⟩
  |1,e=>cases e;exact⟨v1,rfl,r1.same S⟩
 rw[cF,am] at hf
 split at hf
 · rename_i rs n e
   cases e
   refine(aZ (oS (ah d6 (af 1) (ak 0)))) L [some (.lst rs),some (.int n)] [some v0,some v1,some .non,none,none] H _ (decide (n=0)) (he (Same.refl _)) ?_ fun H0 S0=> ?_
   · show (bD (oD (aa eqD) (vD 1) (cD (.int 0)))) _=_
     have h1:aa eqD (.int n) (.int 0)=some (.bl (decide (n=0))):=by rw[am];rfl
     show ((aa eqD (.int n) (.int 0)).bind fun d=>_)=_
     rw[h1]
     rfl
   split at hf
   · rename_i hn
     obtain⟨t,ht,hf⟩:=bnd hf
     obtain⟨x,hx,iW⟩:=bnd hf
     refine Ey (decide_eq_true hn) ?_
     refine mS (jj (ay _) (ac (af 0) ag)) L [some (.lst rs),some (.int n)] [some v0,some v1,some .non,none,none] H0 _ t (he S0) ?_ fun v H1 S1 rv=> ?_
     · exact ht
     · exact .inr ⟨_,[t],x,rfl, .cons rv .nil,hx,fun C dd H1' S1' rx=>fin _ H1 x rfl (S0.trans S1) iW C dd H1' S1' rx⟩
   · rename_i hn
     obtain⟨x,hx,iW⟩:=bnd hf
     refine D8 (decide_eq_false hn) ?_
     exact⟨_,rfl,_,rfl, .inr ⟨L,[.lst rs, .int n],x,rfl, .cons (r0.same S0) (.cons (r1.same S0) .nil),hx,fun C dd H1' S1' rx=>fin _ H0 x rfl S0 iW C dd H1' S1' rx⟩⟩
 · cases hf
end
end
seal PE PA PS PSs PT
section
variable{P:Program}{w:World}{K:W.Frag}{mg:Str→Option Value}{base:Heap}
theorem tO{f:Addr}{fd:FuncData}(F:Fun K "_law_mix" "_law_mix" h9 f fd):
 FnOk P w K mg base CX0 1 f fd ["_law_cell_here","_law_one","_law_prime"] (gf K):=by
 refine F.ok nR (fun vs H Q E h=>bu h) (fun cdv A outer s H vs Q E hr h=> ?_)
 have hu:=hr.units
 have h:spP K kNames .no 3 (bG 4 ia) vs H Q E:=by rw[←am (bG 4 ia)];exact h
 refine⟨_,(al (aC (i:=3) nR.nd rfl (by o_reads) (aq bd (aq gv (aq aw (aq aw (aq aw (aq bd (pv 0) (pv 2)) aj) (aq gv (aq gv aj (pv 1)) (pv 1))) (pv 1)) aj) (pv 2)))
  (av (aL (aq bj (aq bd (aq gv (pv 3) (pv 3)) aj) aj)))), ?_⟩
 exact cQ (K:=K) (ns:=kNames) (fl':=[]) (n:=4) (b:=ia)
  (aB (aW 3 (oS (ah be (oS (ah iO (oS (ah az (oS (ah az (oS (ah az (oS (ah be (af 0) (af 2))) (ak _))) (oS (ah iO (oS (ah iO (ak _) (af 1))) (af 1))))) (af 1))) (ak _))) (af 2))))
  (bo (oS (ah bc (oS (ah be (oS (ah iO (af 3) (af 3))) (ak _))) (ak _))))) rfl (by decide) h
theorem qS{f:Addr}{fd:FuncData}(F:Fun K "_law_names" "_law_names" eh f fd)(g_law_mix:Got P w K mg base 1 "_law_mix" ["_law_cell_here","_law_one","_law_prime"] (gf K))(z_range:mg "range"=none):
 FnOk P w K mg base CX0 2 f fd ["_law_cell_here"] (jn K):=by
 refine F.ok cA (fun vs H Q E h=>bu h) (fun cdv A outer s H vs Q E hr h=> ?_)
 have hu:=hr.units
 have h:spP K kNames .yes 1 (fQ 9 dA) vs H Q E:=by rw[←am (fQ 9 dA)];exact h
 refine⟨_,(al (aC (i:=1) cA.nd rfl (by o_reads) ax)
  (al (aC (i:=2) cA.nd rfl (by o_reads) (bb g_law_mix hr (by o_reads) rfl (ad (pv 0) (ad aj (ad aj ai)))))
  (al (aC (i:=3) cA.nd rfl (by o_reads) (aq aw aj (aq bd (pv 2) aj)))
  (al (aC (i:=4) cA.nd rfl (by o_reads) (aq bd (aq bj (pv 2) aj) (pv 3)))
  (al (aC (i:=5) cA.nd rfl (by o_reads) (aN aD (pv 1) (aq bd (aq bj (pv 2) aj) aj) (fun _ _=>rfl)))
  (al (br (aH (cK hu) (aq bd (aq bj (pv 2) aj) aj) aj (aO _)) (av (aL (gD ["_law_drawn","_law_fill"] [2,5] (CompC.to nS rfl rfl) rfl (jX rfl z_range (ad aj ai)) (fun _ _ _ _ _=>gS) (fun _ _ _ _ _=>(aq gv (pv 2) (aq (m9 (K:=K) rfl) (aq (m9 (K:=K) rfl) (pv 0) aj) (aq bd (pv 1) aj))))))) aM)
  (al (aC (i:=6) cA.nd rfl (by o_reads) (aX ai))
  (al (lC PassesOwn.never rfl (jX rfl z_range (ad aj ai)) (dC (i:=7) cA.nd rfl (by o_reads)) (al (aC (i:=8) cA.nd rfl (by o_reads) (aN aD (pv 1) (aq bd (aq aw (aq bj (pv 2) aj) (aq gv aj (pv 7))) aj) (fun _ _=>rfl)))
  (av (fN (d3 PySem.F.plainAttrs_list PySem.F.slot_list_append PySem.F.type_list_append cR (pv 6) (ad (aq aw (aq aw (aq gv (pv 5) (pv 4)) (pv 8)) (aq gv (pv 5) (aq fO (aq fO (pv 3) aj) (pv 4)))) ai))))))
  (av (aL (pv 6))))))))))), ?_⟩
 exact jZ (K:=K) (ns:=kNames) (fl':=[]) (n:=9) (b:=dA)
  (aB (aW 1 (ay _))
  (aB (aW 2 (bK (ac (af 0) (ac (ak _) (ac (ak _) ag)))))
  (aB (aW 3 (oS (ah az (ak _) (oS (ah be (af 2) (ak _))))))
  (aB (aW 4 (oS (ah be (oS (ah bc (af 2) (ak _))) (af 3))))
  (aB (aW 5 (oS (ah aP (af 1) (oS (ah be (oS (ah bc (af 2) (ak _))) (ak _))))))
  (aB (cY (aZ (oS (ah d6 (oS (ah be (oS (ah bc (af 2) (ak _))) (ak _))) (ak _)))) (qg (iF (iS (mx (ac (ak _) ag))) jh (oS (ah iO (af 2) (oS (ah az (oS (ah az (af 0) (ak _))) (oS (ah be (af 1) (ak _)))))))))
  bf)
  (aB (kN 6 (bg ag) (by decide))
  (aB (pw (iS (mx (ac (ak _) ag))) (lL 7 rfl)
  (aB (aW 8 (oS (ah aP (af 1) (oS (ah be (oS (ah az (oS (ah bc (af 2) (ak _))) (oS (ah iO (ak _) (af 7))))) (ak _))))))
  (nD 6 (oS (ah az (oS (ah az (oS (ah iO (af 5) (af 4))) (af 8))) (oS (ah iO (af 5) (oS (ah fP (oS (ah fP (af 3) (ak _))) (af 4))))))) rfl)))
  (qh 6 rfl))))))))) rfl (by decide) h
theorem si{f:Addr}{fd:FuncData}(F:Fun K "_law_cell" "_law_cell" gc f fd)(z_len:mg "len"=none):
 FnOk P w K mg base CX0 1 f fd ["_law_script","_law_k"] (iH K):=by
 refine F.ok rP (fun vs H Q E h=>bu h) (fun cdv A outer s H vs Q E hr h=> ?_)
 have hu:=hr.units
 have h:spP K kNames .no 2 (bG 2 gh) vs H Q E:=by rw[←am (bG 2 gh)];exact h
 refine⟨_,(al (br (aH kG (pv 1) (aF d4 rfl z_len cq (ad (pv 0) ai)) (aO _)) (av (aL (aN aD (pv 0) (pv 1) (fun _ _=>rfl)))) aM)
  (av (aL aj))), ?_⟩
 exact cQ (K:=K) (ns:=kNames) (fl':=[]) (n:=2) (b:=gh)
  (aB (cY (aZ (oS (ah kM (af 1) (cS (aK bC (ac (af 0) ag)))))) (bo (oS (ah aP (af 0) (af 1))))
  bf)
  (bo (ak _))) rfl (by decide) h
theorem oR{f:Addr}{fd:FuncData}(F:Fun K "_law_wheels" "_law_wheels" eF f fd)(g_law_mix:Got P w K mg base 1 "_law_mix" ["_law_cell_here","_law_one","_law_prime"] (gf K))(z_range:mg "range"=none)(z_min:mg "min"=none):
 FnOk P w K mg base CX0 2 f fd ["_law_cell_here","_law_many"] (iR K):=by
 refine F.ok bN (fun vs H Q E h=>bu h) (fun cdv A outer s H vs Q E hr h=> ?_)
 have hu:=hr.units
 have h:spP K kNames .yes 2 (fQ 10 eJ) vs H Q E:=by rw[←am (fQ 10 eJ)];exact h
 refine⟨_,(al (aC (i:=2) bN.nd rfl (by o_reads) (aX ai))
  (al (aC (i:=3) bN.nd rfl (by o_reads) aj)
  (al (lC PassesOwn.never rfl (jX rfl z_range (ad (pv 1) ai)) (dC (i:=4) bN.nd rfl (by o_reads)) (al (aC (i:=5) bN.nd rfl (by o_reads) (bb g_law_mix hr (by o_reads) rfl (ad (pv 0) (ad (aq aw aj (pv 4)) (ad aj ai)))))
  (al (aC (i:=6) bN.nd rfl (by o_reads) (aF (oY rfl) rfl z_min AJ (ad aj (ad (aq fO (pv 3) (aq fO (aq fO (pv 1) aj) (pv 4))) ai))))
  (al (aC (i:=7) bN.nd rfl (by o_reads) (aN aD (aX (ad aj (ad (pv 6) (ad (aq aw aj (aq bd (aq bj (pv 5) aj) (pv 6))) (ad (aq aw aj (aq bd (aq bj (pv 5) aj) (aF (oY rfl) rfl z_min AJ (ad (pv 6) (ad aj ai))))) ai))))) (aq bd (pv 5) aj) (fun _ _=>rfl)))
  (al (aC (i:=8) bN.nd rfl (by o_reads) (aN aD (aX (ad (aq bd (aq bj (pv 5) aj) aj) (ad (aq bd (aq bj (pv 5) aj) aj) (ad aj (ad (aq bd (aq aw (pv 0) (pv 5)) aj) ai))))) (aq bd (aq bj (pv 5) aj) aj) (fun _ _=>rfl)))
  (al (aC (i:=9) bN.nd rfl (by o_reads) (aN aD (aX (ad (pv 8) (ad aj (ad (aq bd (aq bj (pv 5) aj) (aq aw (pv 8) aj)) ai)))) (aq bd (aq bj (pv 5) aj) aj) (fun _ _=>rfl)))
  (al (fN (d3 PySem.F.plainAttrs_list PySem.F.slot_list_append PySem.F.type_list_append cR (pv 2) (ad (bA (ad (pv 7) (ad (pv 9) (ad (pv 8) ai)))) ai)))
  (av (br (aH ka (pv 4) aj (aO _)) (av (aC (i:=3) bN.nd rfl (by o_reads) (aq fO (pv 3) (pv 7)))) aM)))))))))
  (av (aL (pv 2)))))), ?_⟩
 exact jZ (K:=K) (ns:=kNames) (fl':=[]) (n:=10) (b:=eJ)
  (aB (kN 2 (bg ag) (by decide))
  (aB (aW 3 (ak _))
  (aB (pw (iS (mx (ac (af 1) ag))) (lL 4 rfl)
  (aB (aW 5 (bK (ac (af 0) (ac (oS (ah az (ak _) (af 4))) (ac (ak _) ag)))))
  (aB (aW 6 (cS (aK uq (ac (ak _) (ac (oS (ah fP (af 3) (oS (ah fP (oS (ah fP (af 1) (ak _))) (af 4))))) ag)))))
  (aB (aW 7 (oS (ah aP (PuF.pe (bg (ac (ak _) (ac (af 6) (ac (oS (ah az (ak _) (oS (ah be (oS (ah bc (af 5) (ak _))) (af 6))))) (ac (oS (ah az (ak _) (oS (ah be (oS (ah bc (af 5) (ak _))) (cS (aK uq (ac (af 6) (ac (ak _) ag)))))))) ag)))))) (oS (ah be (af 5) (ak _))))))
  (aB (aW 8 (oS (ah aP (PuF.pe (bg (ac (oS (ah be (oS (ah bc (af 5) (ak _))) (ak _))) (ac (oS (ah be (oS (ah bc (af 5) (ak _))) (ak _))) (ac (ak _) (ac (oS (ah be (oS (ah az (af 0) (af 5))) (ak _))) ag)))))) (oS (ah be (oS (ah bc (af 5) (ak _))) (ak _))))))
  (aB (aW 9 (oS (ah aP (PuF.pe (bg (ac (af 8) (ac (ak _) (ac (oS (ah be (oS (ah bc (af 5) (ak _))) (oS (ah az (af 8) (ak _))))) ag))))) (oS (ah be (oS (ah bc (af 5) (ak _))) (ak _))))))
  (aB (nD 2 (bP (ac (af 7) (ac (af 9) (ac (af 8) ag)))) rfl)
  (cY (aZ (oS (ah jE (af 4) (ak _)))) (aW 3 (oS (ah fP (af 3) (af 7))))
  bf))))))))
  (qh 2 rfl)))) rfl (by decide) h
theorem qT{f:Addr}{fd:FuncData}(F:Fun K "_law_loads" "_law_loads" fq f fd)(g_law_names:Got P w K mg base 2 "_law_names" ["_law_cell_here"] (jn K))(g_law_cell:Got P w K mg base 1 "_law_cell" ["_law_script","_law_k"] (iH K))(g_law_mix:Got P w K mg base 1 "_law_mix" ["_law_cell_here","_law_one","_law_prime"] (gf K))(g_law_wheels:Got P w K mg base 2 "_law_wheels" ["_law_cell_here","_law_many"] (iR K))(z_range:mg "range"=none):
 FnOk P w K mg base CX0 3 f fd ["_law_script","_law_most"] (jo K):=by
 refine F.ok cZ (fun vs H Q E h=>bu h) (fun cdv A outer s H vs Q E hr h=> ?_)
 have hu:=hr.units
 have h:spP K kNames .no 2 (bG 9 fu) vs H Q E:=by rw[←am (bG 9 fu)];exact h
 refine⟨_,(al (aC (i:=2) cZ.nd rfl (by o_reads) (bb g_law_names hr (by o_reads) rfl (ad (bb g_law_cell hr (by o_reads) rfl (ad (pv 0) (ad aj ai))) ai)))
  (al (aC (i:=3) cZ.nd rfl (by o_reads) (aq bd (bb g_law_mix hr (by o_reads) rfl (ad (bb g_law_cell hr (by o_reads) rfl (ad (pv 0) (ad aj ai))) (ad aj (ad aj ai)))) (aq aw (pv 1) aj)))
  (al (aC (i:=4) cZ.nd rfl (by o_reads) (aX ai))
  (al (lC PassesOwn.never rfl (jX rfl z_range (ad (pv 3) ai)) (dC (i:=5) cZ.nd rfl (by o_reads)) (al (aC (i:=6) cZ.nd rfl (by o_reads) (aq aw (bb g_law_cell hr (by o_reads) rfl (ad (pv 0) (ad (aq aw aj (pv 5)) ai))) (aq gv aj (pv 5))))
  (al (aC (i:=7) cZ.nd rfl (by o_reads) (bb g_law_mix hr (by o_reads) rfl (ad (pv 6) (ad aj (ad aj ai)))))
  (al (aC (i:=8) cZ.nd rfl (by o_reads) (aN aD (aX (ad aj (ad aj (ad (aq aw aj (aq bd (aq bj (pv 7) aj) aj)) ai)))) (aq bd (pv 7) aj) (fun _ _=>rfl)))
  (av (fN (d3 PySem.F.plainAttrs_list PySem.F.slot_list_append PySem.F.type_list_append cR (pv 4) (ad (bA (ad (aN aD (pv 2) (pv 5) (fun _ _=>rfl)) (ad (pv 8) (ad (bb g_law_wheels hr (by o_reads) rfl (ad (pv 6) (ad (aN aD (aX (ad aj (ad aj (ad (aq aw aj (aq bd (aq bj (pv 7) aj) aj)) ai)))) (aq bd (aq bj (pv 7) aj) aj) (fun _ _=>rfl)) ai))) ai)))) ai))))))))
  (av (aL (bA (ad (pv 2) (ad (pv 4) ai))))))))), ?_⟩
 exact cQ (K:=K) (ns:=kNames) (fl':=[]) (n:=9) (b:=fu)
  (aB (aW 2 (PuF.pe (dW (ac (bK (ac (af 0) (ac (ak _) ag))) ag))))
  (aB (aW 3 (oS (ah be (bK (ac (bK (ac (af 0) (ac (ak _) ag))) (ac (ak _) (ac (ak _) ag)))) (oS (ah az (af 1) (ak _))))))
  (aB (kN 4 (bg ag) (by decide))
  (aB (pw (iS (mx (ac (af 3) ag))) (lL 5 rfl)
  (aB (aW 6 (oS (ah az (bK (ac (af 0) (ac (oS (ah az (ak _) (af 5))) ag))) (oS (ah iO (ak _) (af 5))))))
  (aB (aW 7 (bK (ac (af 6) (ac (ak _) (ac (ak _) ag)))))
  (aB (aW 8 (oS (ah aP (PuF.pe (bg (ac (ak _) (ac (ak _) (ac (oS (ah az (ak _) (oS (ah be (oS (ah bc (af 7) (ak _))) (ak _))))) ag))))) (oS (ah be (af 7) (ak _))))))
  (nD 4 (bP (ac (oS (ah aP (af 2) (af 5))) (ac (af 8) (ac (PuF.pe (dW (ac (af 6) (ac (oS (ah aP (PuF.pe (bg (ac (ak _) (ac (ak _) (ac (oS (ah az (ak _) (oS (ah be (oS (ah bc (af 7) (ak _))) (ak _))))) ag))))) (oS (ah be (oS (ah bc (af 7) (ak _))) (ak _))))) ag)))) ag)))) rfl)))))
  (bo (bP (ac (af 2) (ac (af 4) ag)))))))) rfl (by decide) h
theorem lW{f:Addr}{fd:FuncData}(F:Fun K "_law_load_rows" "_law_load_rows" cw f fd)(z_str:mg "str"=none):
 FnOk P w K mg base CX0 1 f fd ["_law_loads_here"] (eK K):=by
 refine F.ok cH (fun vs H Q E h=>bu h) (fun cdv A outer s H vs Q E hr h=> ?_)
 have hu:=hr.units
 have h:spP K kNames .yes 1 (fQ 6 cU) vs H Q E:=by rw[←am (fQ 6 cU)];exact h
 refine⟨_,(al (aC (i:=1) cH.nd rfl (by o_reads) (aX ai))
  (al (lC PassesOwn.never rfl (eS (gu (pv 0)) (eS (iL (pv 0)) (iM (pv 0)))) (pP rfl (eV (dC (i:=2) cH.nd rfl (by o_reads)) (eV (dC (i:=3) cH.nd rfl (by o_reads)) (eV (dC (i:=4) cH.nd rfl (by o_reads)) mw)))) (al (fN (d3 PySem.F.plainAttrs_list PySem.F.slot_list_append PySem.F.type_list_append cR (pv 1) (ad (aq aw (aq aw (aq aw ax (pv 2)) ax) (by exact bQ ff rfl z_str ma (ad (pv 3) ai))) ai)))
  (av (lC PassesOwn.never rfl (eS (gu (pv 4)) (eS (iL (pv 4)) (iM (pv 4)))) (dC (i:=5) cH.nd rfl (by o_reads)) (av (fN (d3 PySem.F.plainAttrs_list PySem.F.slot_list_append PySem.F.type_list_append cR (pv 1) (ad (d3 PySem.F.plainAttrs_str PySem.F.slot_str_join PySem.F.type_str_join je ax (ad (aq aw (aX (ad ax ai)) (gD [] [] (CompC.to kA rfl rfl) rfl (eS (gu (pv 5)) (eS (iL (pv 5)) (iM (pv 5)))) (fun _ _ _ _ _=>gS) (fun _ _ _ _ _=>(by exact bQ ff rfl z_str ma (ad (pv 0) ai))))) ai)) ai))))))))
  (av (aL (pv 1))))), ?_⟩
 exact jZ (K:=K) (ns:=kNames) (fl':=[]) (n:=6) (b:=cU)
  (aB (kN 1 (bg ag) (by decide))
  (aB (pw (iQ (af 0)) (xn (iG (i:=2) rfl (iG (i:=3) rfl (iG (i:=4) rfl sW))))
  (aB (nD 1 (oS (ah az (oS (ah az (oS (ah az (ay _) (af 2))) (ay _))) (cS (aK jJ (ac (af 3) ag))))) rfl)
  (pw (iQ (af 4)) (lL 5 rfl)
  (nD 1 (mS (jj (ay _) (ac (oS (ah az (PuF.pe (bg (ac (ay _) ag))) (PuF.pe (iF (iQ (af 5)) jh (cS (aK jJ (ac (af 0) ag))))))) ag))) rfl))))
  (qh 1 rfl))) rfl (by decide) h
theorem oA{f:Addr}{fd:FuncData}(F:Fun K "_law_seventh" "_law_seventh" dO f fd)(g_law_load_rows:Got P w K mg base 1 "_law_load_rows" ["_law_loads_here"] (eK K))(z_list:mg "list"=none)(z_len:mg "len"=none):
 FnOk P w K mg base CX0 2 f fd ["_law_loads_here","_law_names_here"] (ip K):=by
 refine F.ok jM (fun vs H Q E h=>bu h) (fun cdv A outer s H vs Q E hr h=> ?_)
 have hu:=hr.units
 have h:spP K kNames .no 2 (bG 3 dP) vs H Q E:=by rw[←am (bG 3 dP)];exact h
 refine⟨_,(al (aC (i:=2) jM.nd rfl (by o_reads) (bQ jc rfl z_list sH (ad (pv 0) ai)))
  (al (jB PassesOwn.never (aH kG (aF d4 rfl z_len cq (ad (pv 2) ai)) aj (aO _)) (av (fN (d3 PySem.F.plainAttrs_list PySem.F.slot_list_append PySem.F.type_list_append cR (pv 2) (ad (bA (ad (aN aD (pv 1) (aF d4 rfl z_len cq (ad (pv 2) ai)) (fun _ _=>rfl)) (ad aj (ad (aX (ad (bA (ad aj (ad aj (ad aj ai)))) ai)) ai)))) ai)))))
  (av (aL (aq aw (bb g_law_load_rows hr (by o_reads) rfl (ad (pv 2) ai)) (aX (ad (aq aw (aq aw ax (aN aD (pv 1) aj (fun _ _=>rfl))) ax) (ad ax ai)))))))), ?_⟩
 exact cQ (K:=K) (ns:=kNames) (fl':=[]) (n:=3) (b:=dP)
  (aB (kN 2 (cSF (nc qd (ac (af 0) ag))) (by decide))
  (aB (qj (aZ (oS (ah kM (cS (aK bC (ac (af 2) ag))) (ak _))))
  (Cf 2 (Cn (qq (uA (oS (ah aP (af 1) (cS (aK bC (ac (af 2) ag)))))) (qq (uA (ak _)) (qq (Cm (bg (ac (bP (ac (ak _) (ac (ak _) (ac (ak _) ag)))) ag))) Ck)))) rfl))
  (bo (oS (ah az (PuF.pe (dW (ac (af 2) ag))) (PuF.pe (bg (ac (oS (ah az (oS (ah az (ay _) (oS (ah aP (af 1) (ak _))))) (ay _))) (ac (ay _) ag))))))))) rfl (by decide) h
theorem tP{f:Addr}{fd:FuncData}(F:Fun K "rows_of" "rows_of" hZ f fd):
 FnOk P w K mg base CX0 1 f fd ["text"] (jp K):=by
 refine F.ok tz (fun vs H Q E h=>bu h) (fun cdv A outer s H vs Q E hr h=> ?_)
 have hu:=hr.units
 have h:spP K kNames .yes 1 (fQ 1 ib) vs H Q E:=by rw[←am (fQ 1 ib)];exact h
 refine⟨_,(av (aL (d3 PySem.F.plainAttrs_str PySem.F.slot_str_split PySem.F.type_str_split nH (pv 0) (ad ax ai)))), ?_⟩
 exact jZ (K:=K) (ns:=kNames) (fl':=[]) (n:=1) (b:=ib)
  (qg (mSF (nI (af 0) (ac (ay _) ag)))) rfl (by decide) h
theorem oB{f:Addr}{fd:FuncData}(F:Fun K "begins_with" "begins_with" dL f fd)(z_len:mg "len"=none):
 FnOk P w K mg base CX0 1 f fd ["words","kinds"] (cr K):=by
 refine F.ok nQ (fun vs H Q E h=>bu h) (fun cdv A outer s H vs Q E hr h=> ?_)
 have hu:=hr.units
 have h:spP K kNames .no 2 (bG 2 dQ) vs H Q E:=by rw[←am (bG 2 dQ)];exact h
 refine⟨_,(av (aL (vR (jY ka (aF d4 rfl z_len cq (ad (pv 0) ai)) aj (aO _)) (vQ (jY mW (aN aD (pv 0) aj (fun _ _=>rfl)) (pv 1) (by rfl)))))), ?_⟩
 exact cQ (K:=K) (ns:=kNames) (fl':=[]) (n:=2) (b:=dQ)
  (bo (w6 (oS (ah jE (cS (aK bC (ac (af 0) ag))) (ak _))) (oS (ah nJ (oS (ah aP (af 0) (ak _))) (af 1))))) rfl (by decide) h
theorem sj{f:Addr}{fd:FuncData}(F:Fun K "words_at" "words_at" gb f fd)(z_len:mg "len"=none):
 FnOk P w K mg base CX0 1 f fd ["rows","place"] (fA K):=by
 refine F.ok rO (fun vs H Q E h=>bu h) (fun cdv A outer s H vs Q E hr h=> ?_)
 have hu:=hr.units
 have h:spP K kNames .yes 2 (fQ 2 gi) vs H Q E:=by rw[←am (fQ 2 gi)];exact h
 refine⟨_,(al (br (aH rg (pv 1) (aF d4 rfl z_len cq (ad (pv 0) ai)) (aO _)) (av (aL (aX ai))) aM)
  (av (aL (d3 PySem.F.plainAttrs_str PySem.F.slot_str_split PySem.F.type_str_split nH (aN aD (pv 0) (pv 1) (fun _ _=>rfl)) (ad ax ai))))), ?_⟩
 exact jZ (K:=K) (ns:=kNames) (fl':=[]) (n:=2) (b:=gi)
  (aB (cY (aZ (oS (ah nk (af 1) (cS (aK bC (ac (af 0) ag)))))) (qg (bg ag))
  bf)
  (qg (mSF (nI (oS (ah aP (af 0) (af 1))) (ac (ay _) ag))))) rfl (by decide) h
theorem qU{f:Addr}{fd:FuncData}(F:Fun K "is_row_of" "is_row_of" d9 f fd)(z_all:mg "all"=none)(z_len:mg "len"=none):
 FnOk P w K mg base CX0 1 f fd ["text","signs","most"] (gZ K):=by
 refine F.ok qu (fun vs H Q E h=>bu h) (fun cdv A outer s H vs Q E hr h=> ?_)
 have hu:=hr.units
 have h:spP K kNames .no 3 (bG 3 fB) vs H Q E:=by rw[←am (bG 3 fB)];exact h
 refine⟨_,(al (br (PW.pt (ij (aH kG (aF d4 rfl z_len cq (ad (pv 0) ai)) aj (aO _)) (ig (aH ka (aF d4 rfl z_len cq (ad (pv 0) ai)) (pv 2) (aO _))))) (av (aL lY)) aM)
  (av (aL (aF (oK rfl) rfl z_all Ds (ad (gD ["signs"] [1] (CompC.to nO rfl rfl) rfl (eS (gu (pv 0)) (eS (iL (pv 0)) (iM (pv 0)))) (fun _ _ _ _ _=>gS) (fun _ _ _ _ _=>(jY (BN (K:=K) rfl) (pv 0) (pv 1) (by rfl)))) ai))))), ?_⟩
 exact cQ (K:=K) (ns:=kNames) (fl':=[]) (n:=3) (b:=fB)
  (aB (cY (eU (aZ (oS (ah kM (cS (aK bC (ac (af 0) ag))) (ak _)))) (aZ (oS (ah jE (cS (aK bC (ac (af 0) ag))) (af 2))))) (bo (pq _))
  bf)
  (bo (cS (aK B1 (ac (PuF.pe (iF (iQ (af 0)) jh (oS (ah nJ (af 0) (af 1))))) ag))))) rfl (by decide) h
theorem lu{f:Addr}{fd:FuncData}{dV:Value}(F:FunX K "number_of" "number_of" bS f fd dV)(g_is_row_of:Got P w K mg base 1 "is_row_of" ["text","signs","most"] (gZ K))(z_int:mg "int"=none)(c_FIGURES:∃u,mg "FIGURES"=some u∧RelV (V.str (Str.ofString "0123456789")) u)(c_MOST_FIGURES:∃u,mg "MOST_FIGURES"=some u∧RelV (V.int 60) u):
 FnOk P w K mg base CX0 2 f fd ["text","most"] (fS K):=by
 refine F.ok kX (fun vs H Q E h=>bu h) (fun cdv A outer s H vs Q E hr h=> ?_)
 have hu:=hr.units
 have h:spP K kNames .no 2 (bG 3 fD) vs H Q E:=by rw[←am (bG 3 fD)];exact h
 refine⟨_,(al (br (gM (e7 (bb g_is_row_of hr (by o_reads) rfl (ad (pv 0) (ad (kc rfl c_FIGURES) (ad (kc rfl c_MOST_FIGURES) ai)))))) (av (aL dU)) aM)
  (al (br (PW.pt (mK (e7 (d3 PySem.F.plainAttrs_str PySem.F.slot_str_startswith PySem.F.type_str_startswith oJ (pv 0) (ad ax ai))) (kF (aH (mQ hu) (pv 0) ax (aO _))))) (av (aL dU)) aM)
  (al (aC (i:=2) kX.nd rfl (by o_reads) (bQ lG rfl z_int t8 (ad (pv 0) ai)))
  (al (br (PW.pt (mK (aH yY (pv 1) dU (aO _)) (kF (aH ka (pv 2) (pv 1) (aO _))))) (av (aL dU)) aM)
  (av (aL (pv 2))))))), ?_⟩
 exact cQ (K:=K) (ns:=kNames) (fl':=[]) (n:=3) (b:=fD)
  (aB (cY (gU (iZ (bK (ac (af 0) (ac (ay _) (ac (ak _) ag)))))) (bo dD)
  bf)
  (aB (cY (kL (iZ (mS (vC (af 0) (ac (ay _) ag)))) (aZ (oS (ah uo (af 0) (ay _))))) (bo dD)
  bf)
  (aB (aW 2 (cS (aK ql (ac (af 0) ag))))
  (aB (cY (kL (aZ (oS (ah zA (af 1) dD))) (aZ (oS (ah jE (af 2) (af 1))))) (bo dD)
  bf)
  (bo (af 2)))))) rfl (by decide) h
theorem lX{f:Addr}{fd:FuncData}(F:Fun K "number_within" "number_within" cT f fd)(g_number_of:Got P w K mg base 2 "number_of" ["text","most"] (fS K))(gd_number_of:GotD P w K mg base 2 "number_of" ["text","most"] [V.non] (fS K)):
 FnOk P w K mg base CX0 3 f fd ["text","bound"] (gj K):=by
 refine F.ok i5 (fun vs H Q E h=>bu h) (fun cdv A outer s H vs Q E hr h=> ?_)
 have hu:=hr.units
 have h:spP K kNames .no 2 (bG 3 cV) vs H Q E:=by rw[←am (bG 3 cV)];exact h
 refine⟨_,(al (aC (i:=2) i5.nd rfl (by o_reads) (bb g_number_of hr (by o_reads) rfl (ad (pv 0) (ad (aN aD (pv 1) aj (fun _ _=>rfl)) ai))))
  (al (br (PW.pt (ij (aH lI (pv 2) dU (aO _)) (ig (aH kG (pv 2) (aN aD (pv 1) aj (fun _ _=>rfl)) (aO _))))) (av (aL dU)) aM)
  (av (aL (pv 2))))), ?_⟩
 exact cQ (K:=K) (ns:=kNames) (fl':=[]) (n:=3) (b:=cV)
  (aB (aW 2 (bK (ac (af 0) (ac (oS (ah aP (af 1) (ak _))) ag))))
  (aB (cY (eU (aZ (oS (ah mf (af 2) dD))) (aZ (oS (ah kM (af 2) (oS (ah aP (af 1) (ak _))))))) (bo dD)
  bf)
  (bo (af 2)))) rfl (by decide) h
theorem oU{f:Addr}{fd:FuncData}(F:Fun K "numbers_of" "numbers_of" dE f fd)(g_number_within:Got P w K mg base 3 "number_within" ["text","bound"] (gj K))(z_len:mg "len"=none)(z_zip:mg "zip"=none):
 FnOk P w K mg base CX0 4 f fd ["texts","bounds"] (gz K):=by
 refine F.ok kf (fun vs H Q E h=>bu h) (fun cdv A outer s H vs Q E hr h=> ?_)
 have hu:=hr.units
 have h:spP K kNames .no 2 (bG 3 eM) vs H Q E:=by rw[←am (bG 3 eM)];exact h
 refine⟨_,(al (br (aH (mQ hu) (aF d4 rfl z_len cq (ad (pv 0) ai)) (aF d4 rfl z_len cq (ad (pv 1) ai)) (aO _)) (av (aL dU)) aM)
  (al (wW [] [] (CompCT.to gN rfl rfl) rfl rfl (fun _ _ _ _ _=>(zu (K:=K) (n:=2) rfl rfl (eV (ug (CompCT.to gN rfl rfl) 0 rfl (by decide)) (eV (ug (CompCT.to gN rfl rfl) 1 rfl (by decide)) mw)))) (eS (eS (BJ (by rfl) z_zip (ad (pv 0) (ad (pv 1) ai))) (zw (by rfl) z_zip (ad (pv 0) (ad (pv 1) ai)))) (zP (by rfl) z_zip (ad (pv 0) (ad (pv 1) ai)))) (fun _ _ _ _ _=>gS) (fun _ _ _ _ _=>(B5 g_number_within (by rfl) (by rfl) (by rfl) (by rfl) (by rfl) (by exact hr) (by o_reads) rfl (ad (pv 0) (ad (pv 1) ai)))) 2 kf.nd rfl (by o_reads))
  (al (br (aH mW dU (pv 2) (by rfl)) (av (aL dU)) aM)
  (av (aL (pv 2)))))), ?_⟩
 exact cQ (K:=K) (ns:=kNames) (fl':=[]) (n:=3) (b:=eM)
  (aB (cY (aZ (oS (ah uo (cS (aK bC (ac (af 0) ag))) (cS (aK bC (ac (af 1) ag)))))) (bo dD)
  bf)
  (aB (aW 2 (PuF.pe (xu (iS (zR (ac (af 0) (ac (af 1) ag)))) jh (bK (ac (af 0) (ac (af 1) ag))))))
  (aB (cY (aZ (oS (ah nJ dD (af 2)))) (bo dD)
  bf)
  (bo (af 2))))) rfl (by decide) h
theorem tQ{f:Addr}{fd:FuncData}(F:Fun K "is_word" "is_word" hV f fd)(g_is_row_of:Got P w K mg base 1 "is_row_of" ["text","signs","most"] (gZ K))(c_LETTERS:∃u,mg "LETTERS"=some u∧RelV (V.str (Str.ofString "abcdefghijklmnopqrstuvwxyz")) u)(c_MOST_LETTERS:∃u,mg "MOST_LETTERS"=some u∧RelV (V.int 12) u):
 FnOk P w K mg base CX0 2 f fd ["text"] (kB K):=by
 refine F.ok tw (fun vs H Q E h=>bu h) (fun cdv A outer s H vs Q E hr h=> ?_)
 have hu:=hr.units
 have h:spP K kNames .no 1 (bG 1 ic) vs H Q E:=by rw[←am (bG 1 ic)];exact h
 refine⟨_,(av (aL (bb g_is_row_of hr (by o_reads) rfl (ad (pv 0) (ad (kc rfl c_LETTERS) (ad (kc rfl c_MOST_LETTERS) ai)))))), ?_⟩
 exact cQ (K:=K) (ns:=kNames) (fl':=[]) (n:=1) (b:=ic)
  (bo (bK (ac (af 0) (ac (ay _) (ac (ak _) ag))))) rfl (by decide) h
theorem qV{f:Addr}{fd:FuncData}(F:Fun K "named_row" "named_row" fk f fd)(g_numbers_of:Got P w K mg base 4 "numbers_of" ["texts","bounds"] (gz K))(g_begins_with:Got P w K mg base 1 "begins_with" ["words","kinds"] (cr K))(g_is_word:Got P w K mg base 2 "is_word" ["text"] (kB K))(z_len:mg "len"=none):
 FnOk P w K mg base CX0 5 f fd ["words","kind","bounds"] (g0 K):=by
 refine F.ok kY (fun vs H Q E h=>bu h) (fun cdv A outer s H vs Q E hr h=> ?_)
 have hu:=hr.units
 have h:spP K kNames .no 3 (bG 4 fE) vs H Q E:=by rw[←am (bG 4 fE)];exact h
 refine⟨_,(al (br (PW.pt (ij (gM (e7 (bb g_begins_with hr (by o_reads) rfl (ad (pv 0) (ad (bA (ad (pv 1) ai)) ai))))) (ij (aH kG (aF d4 rfl z_len cq (ad (pv 0) ai)) aj (aO _)) (ig (gM (e7 (bb g_is_word hr (by o_reads) rfl (ad (aN aD (pv 0) aj (fun _ _=>rfl)) ai)))))))) (av (aL dU)) aM)
  (al (aC (i:=3) kY.nd rfl (by o_reads) (bb g_numbers_of hr (by o_reads) rfl (ad (bt slX (pv 0) (bI aj) bX) (ad (pv 2) ai))))
  (al (br (aH lI (pv 3) dU (aO _)) (av (aL dU)) aM)
  (av (aL (bA (ad (aN aD (pv 0) aj (fun _ _=>rfl)) (ad (pv 3) ai)))))))), ?_⟩
 exact cQ (K:=K) (ns:=kNames) (fl':=[]) (n:=4) (b:=fE)
  (aB (cY (eU (gU (iZ (bK (ac (af 0) (ac (bP (ac (af 1) ag)) ag))))) (eU (aZ (oS (ah kM (cS (aK bC (ac (af 0) ag))) (ak _)))) (gU (iZ (bK (ac (oS (ah aP (af 0) (ak _))) ag)))))) (bo dD)
  bf)
  (aB (aW 3 (bK (ac (slS (gQ (af 0) (gI (ak _)) im)) (ac (af 2) ag))))
  (aB (cY (aZ (oS (ah mf (af 3) dD))) (bo dD)
  bf)
  (bo (bP (ac (oS (ah aP (af 0) (ak _))) (ac (af 3) ag))))))) rfl (by decide) h
theorem lx{f:Addr}{fd:FuncData}(F:Fun K "read_head" "read_head" du f fd)(g_named_row:Got P w K mg base 5 "named_row" ["words","kind","bounds"] (g0 K))(z_len:mg "len"=none)(n_SPEED:mg "SPEED"=some (.ref (clA K "SPEED")))(k_SPEED:KT K (clA K "SPEED") [.int 1, .int 12])(c_MOST_LOADS:∃u,mg "MOST_LOADS"=some u∧RelV (V.int 6) u):
 FnOk P w K mg base CX0 6 f fd ["words","number","loads"] (jq K):=by
 refine F.ok gX (fun vs H Q E h=>bu h) (fun cdv A outer s H vs Q E hr h=> ?_)
 have hu:=hr.units
 have h:spP K kNames .no 3 (bG 4 fF) vs H Q E:=by rw[←am (bG 4 fF)];exact h
 refine⟨_,(al (aC (i:=3) gX.nd rfl (by o_reads) (bb g_named_row hr (by o_reads) rfl (ad (pv 0) (ad ax (ad (bA (ad (gP rfl n_SPEED) ai)) ai)))))
  (al (br (PW.pt (ij (aH lI (pv 3) dU (aO _)) (ig (aH rg (aF d4 rfl z_len cq (ad (pv 2) ai)) (kc rfl c_MOST_LOADS) (aO _))))) (av nG) aM)
  (al (br (aH mW (aN aD (pv 3) aj (fun _ _=>rfl)) (gD [] [] (CompC.to jL rfl rfl) rfl (eS (gu (pv 2)) (eS (iL (pv 2)) (iM (pv 2)))) (fun _ _ _ _ _=>gS) (fun _ _ _ _ _=>(uh (K:=K) rfl (f:="name") (pv 0) rfl))) (by rfl)) (av nG) aM)
  (av (aL (pv 3)))))), ?_⟩
 exact cQ (K:=K) (ns:=kNames) (fl':=[]) (n:=4) (b:=fF)
  (aB (aW 3 (bK (ac (af 0) (ac (ay _) (ac (bP (ac (me fun _ _=> .kt k_SPEED (.cons (.int _) (.cons (.int _) (.nil)))) ag)) ag)))))
  (aB (cY (eU (aZ (oS (ah mf (af 3) dD))) (aZ (oS (ah nk (cS (aK bC (ac (af 2) ag))) (ak _))))) kQ
  bf)
  (aB (cY (aZ (oS (ah nJ (oS (ah aP (af 3) (ak _))) (PuF.pe (iF (iQ (af 2)) jh (uS (xf .name (af 0)))))))) kQ
  bf)
  (bo (af 3))))) rfl (by decide) h
theorem oV{f:Addr}{fd:FuncData}(F:Fun K "read_head" "read_head" du f fd)(g_named_row:Got P w K mg base 5 "named_row" ["words","kind","bounds"] (g0 K))(m_BadRow:GotX P w K mg base 1 "BadRow" ["self","row"] (bi K))(d_BadRow:XKd K kNames (clA K "BadRow") ["BadRow","TextError","WayError"] ["row"])(m_Twice:GotX P w K mg base 1 "Twice" ["self","row"] (bi K))(d_Twice:XKd K kNames (clA K "Twice") ["Twice","TextError","WayError"] ["row"])(z_len:mg "len"=none)(n_SPEED:mg "SPEED"=some (.ref (clA K "SPEED")))(k_SPEED:KT K (clA K "SPEED") [.int 1, .int 12])(c_MOST_LOADS:∃u,mg "MOST_LOADS"=some u∧RelV (V.int 6) u):
 FnOk P w K mg base (CX1 P w) 6 f fd ["words","number","loads"] (spX K kNames 3 eC):=by
 refine F.okX gX (fun vs H Q E h=>kS h) (fun cdv A outer s H vs Q E hr h=> ?_)
 have hu:=hr.units
 have h:spX K kNames 3 (j9 4 fG) vs H Q E:=by rw[←am (j9 4 fG)];exact h
 refine⟨_,(al (aC (i:=3) gX.nd rfl (by o_reads) (bb g_named_row hr (by o_reads) rfl (ad (pv 0) (ad ax (ad (bA (ad (gP rfl n_SPEED) ai)) ai)))))
  (al (br (PW.pt (ij (aH lI (pv 3) dU (aO _)) (ig (aH rg (aF d4 rfl z_len cq (ad (pv 2) ai)) (kc rfl c_MOST_LOADS) (aO _))))) (av (jK eZ rfl (m6 m_BadRow hr (by decide) rfl (ad (pv 1) ai)))) aM)
  (al (br (aH mW (aN aD (pv 3) aj (fun _ _=>rfl)) (gD [] [] (CompC.to jL rfl rfl) rfl (eS (gu (pv 2)) (eS (iL (pv 2)) (iM (pv 2)))) (fun _ _ _ _ _=>gS) (fun _ _ _ _ _=>(uh (K:=K) rfl (f:="name") (pv 0) rfl))) (by rfl)) (av (jK eZ rfl (m6 m_Twice hr (by decide) rfl (ad (pv 1) ai)))) aM)
  (av (aL (pv 3)))))), ?_⟩
 exact kU (K:=K) (ns:=kNames) (n:=4) (b:=fG)
  (jm (fr:= .no) (lf:=[]) (aW 3 (bK (ac (af 0) (ac (ay _) (ac (bP (ac (me fun _ _=> .kt k_SPEED (.cons (.int _) (.cons (.int _) (.nil)))) ag)) ag)))))
  (uy (fr:= .no) (lf:=[]) (xP (eU (aZ (oS (ah mf (af 3) dD))) (aZ (oS (ah nk (cS (aK bC (ac (af 2) ag))) (ak _))))) (kT d_BadRow (rQ d_BadRow) (af 1))
  nN) (cY (eU (aZ (oS (ah mf (af 3) dD))) (aZ (oS (ah nk (cS (aK bC (ac (af 2) ag))) (ak _))))) rM
  bf)
  (ky (xP (aZ (oS (ah nJ (oS (ah aP (af 3) (ak _))) (PuF.pe (iF (iQ (af 2)) jh (uS (xf .name (af 0)))))))) (kT d_Twice (rQ d_Twice) (af 1))
  nN)))) rfl (by decide) h
theorem qW{f:Addr}{fd:FuncData}(F:Fun K "plain_row" "plain_row" fj f fd)(g_numbers_of:Got P w K mg base 4 "numbers_of" ["texts","bounds"] (gz K))(g_begins_with:Got P w K mg base 1 "begins_with" ["words","kinds"] (cr K)):
 FnOk P w K mg base CX0 5 f fd ["words","kind","bounds"] (g6 K):=by
 refine F.ok qw (fun vs H Q E h=>bu h) (fun cdv A outer s H vs Q E hr h=> ?_)
 have hu:=hr.units
 have h:spP K kNames .no 3 (bG 3 fH) vs H Q E:=by rw[←am (bG 3 fH)];exact h
 refine⟨_,(al (br (gM (e7 (bb g_begins_with hr (by o_reads) rfl (ad (pv 0) (ad (bA (ad (pv 1) ai)) ai))))) (av (aL dU)) aM)
  (av (aL (bb g_numbers_of hr (by o_reads) rfl (ad (bt slX (pv 0) (bI aj) bX) (ad (pv 2) ai)))))), ?_⟩
 exact cQ (K:=K) (ns:=kNames) (fl':=[]) (n:=3) (b:=fH)
  (aB (cY (gU (iZ (bK (ac (af 0) (ac (bP (ac (af 1) ag)) ag))))) (bo dD)
  bf)
  (bo (bK (ac (slS (gQ (af 0) (gI (ak _)) im)) (ac (af 2) ag))))) rfl (by decide) h
theorem tR{f:Addr}{fd:FuncData}(F:Fun K "span_of" "span_of" fZ f fd)(z_sum:mg "sum"=none):
 FnOk P w K mg base CX0 1 f fd ["wheels"] (js K):=by
 refine F.ok tu (fun vs H Q E h=>bu h) (fun cdv A outer s H vs Q E hr h=> ?_)
 have hu:=hr.units
 have h:spP K kNames .no 1 (bG 1 ie) vs H Q E:=by rw[←am (bG 1 ie)];exact h
 refine⟨_,(av (aL (aF (iN rfl) rfl z_sum wR (ad (gD [] [] (CompC.to qt rfl rfl) rfl (eS (gu (bt slX (pv 0) (bI aj) bX)) (eS (iL (bt slX (pv 0) (bI aj) bX)) (iM (bt slX (pv 0) (bI aj) bX)))) (fun _ _ _ _ _=>gS) (fun _ _ _ _ _=>(aN (pY (K:=K) rfl) (pv 0) aj (fun _ _=>rfl)))) ai)))), ?_⟩
 exact cQ (K:=K) (ns:=kNames) (fl':=[]) (n:=1) (b:=ie)
  (bo (cS (aK sS (ac (PuF.pe (iF (iQ (slS (gQ (af 0) (gI (ak _)) im))) jh (oS (ah aP (af 0) (ak _))))) ag)))) rfl (by decide) h
theorem ki{f:Addr}{fd:FuncData}(F:Fun K "read_wheel" "read_wheel" dF f fd)(g_plain_row:Got P w K mg base 5 "plain_row" ["words","kind","bounds"] (g6 K))(g_span_of:Got P w K mg base 1 "span_of" ["wheels"] (js K))(z_tuple:mg "tuple"=none)(z_len:mg "len"=none)(c_MOST_SPAN:∃u,mg "MOST_SPAN"=some u∧RelV (V.int 200) u)(n_GAP:mg "GAP"=some (.ref (clA K "GAP")))(k_GAP:KT K (clA K "GAP") [.int 1, .int 100])(n_WEIGHT:mg "WEIGHT"=some (.ref (clA K "WEIGHT")))(k_WEIGHT:KT K (clA K "WEIGHT") [.int 0, .int 1000000])(c_MOST_WHEELS:∃u,mg "MOST_WHEELS"=some u∧RelV (V.int 8) u):
 FnOk P w K mg base CX0 6 f fd ["words","number","wheels"] (iT K):=by
 refine F.ok dM (fun vs H Q E h=>bu h) (fun cdv A outer s H vs Q E hr h=> ?_)
 have hu:=hr.units
 have h:spP K kNames .no 3 (bG 5 eN) vs H Q E:=by rw[←am (bG 5 eN)];exact h
 refine⟨_,(al (aC (i:=3) dM.nd rfl (by o_reads) (bb g_plain_row hr (by o_reads) rfl (ad (pv 0) (ad ax (ad (bA (ad (gP rfl n_GAP) (ad (gP rfl n_WEIGHT) (ad (gP rfl n_WEIGHT) ai)))) ai)))))
  (al (br (PW.pt (ij (aH lI (pv 3) dU (aO _)) (ij (aH ka (aN aD (pv 3) aj (fun _ _=>rfl)) (aN aD (pv 3) aj (fun _ _=>rfl)) (aO _)) (ig (aH rg (aF d4 rfl z_len cq (ad (pv 2) ai)) (kc rfl c_MOST_WHEELS) (aO _)))))) (av nG) aM)
  (al (aC (i:=4) dM.nd rfl (by o_reads) (bQ kb rfl z_tuple t9 (ad (pv 3) ai)))
  (al (br (aH ka (bb g_span_of hr (by o_reads) rfl (ad (aq aw (pv 2) (aX (ad (pv 4) ai))) ai)) (kc rfl c_MOST_SPAN) (aO _)) (av nG) aM)
  (av (aL (pv 4))))))), ?_⟩
 exact cQ (K:=K) (ns:=kNames) (fl':=[]) (n:=5) (b:=eN)
  (aB (aW 3 (bK (ac (af 0) (ac (ay _) (ac (bP (ac (me fun _ _=> .kt k_GAP (.cons (.int _) (.cons (.int _) (.nil)))) (ac (me fun _ _=> .kt k_WEIGHT (.cons (.int _) (.cons (.int _) (.nil)))) (ac (me fun _ _=> .kt k_WEIGHT (.cons (.int _) (.cons (.int _) (.nil)))) ag)))) ag)))))
  (aB (cY (eU (aZ (oS (ah mf (af 3) dD))) (eU (aZ (oS (ah jE (oS (ah aP (af 3) (ak _))) (oS (ah aP (af 3) (ak _)))))) (aZ (oS (ah nk (cS (aK bC (ac (af 2) ag))) (ak _)))))) kQ
  bf)
  (aB (aW 4 (cS (aK rz (ac (af 3) ag))))
  (aB (cY (aZ (oS (ah jE (bK (ac (oS (ah az (af 2) (PuF.pe (bg (ac (af 4) ag))))) ag)) (ak _)))) kQ
  bf)
  (bo (af 4)))))) rfl (by decide) h
theorem oE{f:Addr}{fd:FuncData}(F:Fun K "read_wheel" "read_wheel" dF f fd)(g_plain_row:Got P w K mg base 5 "plain_row" ["words","kind","bounds"] (g6 K))(g_span_of:Got P w K mg base 1 "span_of" ["wheels"] (js K))(m_BadRow:GotX P w K mg base 1 "BadRow" ["self","row"] (bi K))(d_BadRow:XKd K kNames (clA K "BadRow") ["BadRow","TextError","WayError"] ["row"])(m_TooLong:GotX P w K mg base 1 "TooLong" ["self","row"] (bi K))(d_TooLong:XKd K kNames (clA K "TooLong") ["TooLong","TextError","WayError"] ["row"])(z_tuple:mg "tuple"=none)(z_len:mg "len"=none)(c_MOST_SPAN:∃u,mg "MOST_SPAN"=some u∧RelV (V.int 200) u)(n_GAP:mg "GAP"=some (.ref (clA K "GAP")))(k_GAP:KT K (clA K "GAP") [.int 1, .int 100])(n_WEIGHT:mg "WEIGHT"=some (.ref (clA K "WEIGHT")))(k_WEIGHT:KT K (clA K "WEIGHT") [.int 0, .int 1000000])(c_MOST_WHEELS:∃u,mg "MOST_WHEELS"=some u∧RelV (V.int 8) u):
 FnOk P w K mg base (CX1 P w) 6 f fd ["words","number","wheels"] (spX K kNames 3 eP):=by
 refine F.okX dM (fun vs H Q E h=>kS h) (fun cdv A outer s H vs Q E hr h=> ?_)
 have hu:=hr.units
 have h:spX K kNames 3 (j9 5 eO) vs H Q E:=by rw[←am (j9 5 eO)];exact h
 refine⟨_,(al (aC (i:=3) dM.nd rfl (by o_reads) (bb g_plain_row hr (by o_reads) rfl (ad (pv 0) (ad ax (ad (bA (ad (gP rfl n_GAP) (ad (gP rfl n_WEIGHT) (ad (gP rfl n_WEIGHT) ai)))) ai)))))
  (al (br (PW.pt (ij (aH lI (pv 3) dU (aO _)) (ij (aH ka (aN aD (pv 3) aj (fun _ _=>rfl)) (aN aD (pv 3) aj (fun _ _=>rfl)) (aO _)) (ig (aH rg (aF d4 rfl z_len cq (ad (pv 2) ai)) (kc rfl c_MOST_WHEELS) (aO _)))))) (av (jK eZ rfl (m6 m_BadRow hr (by decide) rfl (ad (pv 1) ai)))) aM)
  (al (aC (i:=4) dM.nd rfl (by o_reads) (bQ kb rfl z_tuple t9 (ad (pv 3) ai)))
  (al (br (aH ka (bb g_span_of hr (by o_reads) rfl (ad (aq aw (pv 2) (aX (ad (pv 4) ai))) ai)) (kc rfl c_MOST_SPAN) (aO _)) (av (jK eZ rfl (m6 m_TooLong hr (by decide) rfl (ad (pv 1) ai)))) aM)
  (av (aL (pv 4))))))), ?_⟩
 exact kU (K:=K) (ns:=kNames) (n:=5) (b:=eO)
  (jm (fr:= .no) (lf:=[]) (aW 3 (bK (ac (af 0) (ac (ay _) (ac (bP (ac (me fun _ _=> .kt k_GAP (.cons (.int _) (.cons (.int _) (.nil)))) (ac (me fun _ _=> .kt k_WEIGHT (.cons (.int _) (.cons (.int _) (.nil)))) (ac (me fun _ _=> .kt k_WEIGHT (.cons (.int _) (.cons (.int _) (.nil)))) ag)))) ag)))))
  (uy (fr:= .no) (lf:=[]) (xP (eU (aZ (oS (ah mf (af 3) dD))) (eU (aZ (oS (ah jE (oS (ah aP (af 3) (ak _))) (oS (ah aP (af 3) (ak _)))))) (aZ (oS (ah nk (cS (aK bC (ac (af 2) ag))) (ak _)))))) (kT d_BadRow (rQ d_BadRow) (af 1))
  nN) (cY (eU (aZ (oS (ah mf (af 3) dD))) (eU (aZ (oS (ah jE (oS (ah aP (af 3) (ak _))) (oS (ah aP (af 3) (ak _)))))) (aZ (oS (ah nk (cS (aK bC (ac (af 2) ag))) (ak _)))))) rM
  bf)
  (jm (fr:= .no) (lf:=[]) (aW 4 (cS (aK rz (ac (af 3) ag))))
  (ky (xP (aZ (oS (ah jE (bK (ac (oS (ah az (af 2) (PuF.pe (bg (ac (af 4) ag))))) ag)) (ak _)))) (kT d_TooLong (rQ d_TooLong) (af 1))
  nN))))) rfl (by decide) h
theorem jV{f:Addr}{fd:FuncData}(F:Fun K "read_wheels" "read_wheels" dc f fd)(g_begins_with:Got P w K mg base 1 "begins_with" ["words","kinds"] (cr K))(g_words_at:Got P w K mg base 1 "words_at" ["rows","place"] (fA K))(g_read_wheel:Got P w K mg base 6 "read_wheel" ["words","number","wheels"] (iT K)):
 FnOk P w K mg base CX0 7 f fd ["rows","place","first"] (iq K):=by
 refine F.ok dg (fun vs H Q E h=>bu h) (fun cdv A outer s H vs Q E hr h=> ?_)
 have hu:=hr.units
 have h:spP K kNames .yes 3 (fQ 4 dR) vs H Q E:=by rw[←am (fQ 4 dR)];exact h
 refine⟨_,(al (aC (i:=3) dg.nd rfl (by o_reads) (aX ai))
  (al (jB PassesOwn.never (PW.pt (ij (gM (rh (pv 3) (fun _=>rfl))) (ig (e7 (bb g_begins_with hr (by o_reads) rfl (ad (bb g_words_at hr (by o_reads) rfl (ad (pv 0) (ad (pv 1) ai))) (ad (bA (ad ax ai)) ai))))))) (al (fN (d3 PySem.F.plainAttrs_list PySem.F.slot_list_append PySem.F.type_list_append cR (pv 3) (ad (bb g_read_wheel hr (by o_reads) rfl (ad (bb g_words_at hr (by o_reads) rfl (ad (pv 0) (ad (pv 1) ai))) (ad (aq aw (pv 2) (pv 1)) (ad (pv 3) ai)))) ai)))
  (av (aC (i:=1) dg.nd rfl (by o_reads) (aq aw (pv 1) aj)))))
  (av (aL (pv 3))))), ?_⟩
 exact jZ (K:=K) (ns:=kNames) (fl':=[]) (n:=4) (b:=dR)
  (aB (kN 3 (bg ag) (by decide))
  (aB (qj (eU (gU (w5 (af 3))) (iZ (bK (ac (PuF.pe (dW (ac (af 0) (ac (af 1) ag)))) (ac (bP (ac (ay _) ag)) ag)))))
  (aB (xj 3 (bK (ac (PuF.pe (dW (ac (af 0) (ac (af 1) ag)))) (ac (oS (ah az (af 2) (af 1))) (ac (af 3) ag)))) rfl)
  (aW 1 (oS (ah az (af 1) (ak _))))))
  (qh 3 rfl))) rfl (by decide) h
theorem mv{f:Addr}{fd:FuncData}(F:Fun K "read_wheels" "read_wheels" dc f fd)(g_begins_with:Got P w K mg base 1 "begins_with" ["words","kinds"] (cr K))(g_words_at:Got P w K mg base 1 "words_at" ["rows","place"] (fA K))(gx_read_wheel:GotB P w K mg base 6 "read_wheel" ["words","number","wheels"] (kg K)):
 FnOk P w K mg base (CX1 P w) 7 f fd ["rows","place","first"] (spX K kNames 3 bZ):=by
 refine F.okX dg (fun vs H Q E h=>kS h) (fun cdv A outer s H vs Q E hr h=> ?_)
 have hu:=hr.units
 have h:spX K kNames 3 (j9 4 dS) vs H Q E:=by rw[←am (j9 4 dS)];exact h
 refine⟨_,(al (aC (i:=3) dg.nd rfl (by o_reads) (aX ai))
  (al (jB (DO eZ) (PW.pt (ij (gM (rh (pv 3) (fun _=>rfl))) (ig (e7 (bb g_begins_with hr (by o_reads) rfl (ad (bb g_words_at hr (by o_reads) rfl (ad (pv 0) (ad (pv 1) ai))) (ad (bA (ad ax ai)) ai))))))) (al (fN (d3 PySem.F.plainAttrs_list PySem.F.slot_list_append PySem.F.type_list_append cR (pv 3) (ad (qp eZ gx_read_wheel hr (by o_reads) rfl (ad (bb g_words_at hr (by o_reads) rfl (ad (pv 0) (ad (pv 1) ai))) (ad (aq aw (pv 2) (pv 1)) (ad (pv 3) ai)))) ai)))
  (av (aC (i:=1) dg.nd rfl (by o_reads) (aq aw (pv 1) aj)))))
  (av (aL (pv 3))))), ?_⟩
 exact kU (K:=K) (ns:=kNames) (n:=4) (b:=dS)
  (jm (fr:= .no) (lf:=[]) (kN 3 (bg ag) (by decide))
  (ky (uz (fr:= .no) (eU (gU (w5 (af 3))) (iZ (bK (ac (PuF.pe (dW (ac (af 0) (ac (af 1) ag)))) (ac (bP (ac (ay _) ag)) ag))))) (ky (DP 3 (my (ac (PuF.pe (dW (ac (af 0) (ac (af 1) ag)))) (ac (oS (ah az (af 2) (af 1))) (ac (af 3) ag)))) rfl))
  (aB (xj 3 (tq (ac (PuF.pe (dW (ac (af 0) (ac (af 1) ag)))) (ac (oS (ah az (af 2) (af 1))) (ac (af 3) ag)))) rfl)
  (aW 1 (oS (ah az (af 1) (ak _)))))))) rfl (by decide) h
theorem qX{f:Addr}{fd:FuncData}(F:Fun K "__init__" "Cart.__init__" fg f fd)(z_list:mg "list"=none):
 FnOk P w K mg base CX0 1 f fd ["self","name","speed","wheels"] (g9 K):=by
 refine F.ok qr (fun vs H Q E h=>zL h) (fun cdv A outer s H vs Q E hr h=> ?_)
 have hu:=hr.units
 refine⟨_,(al (sB (f:="name") (pv 0) (pv 1) rfl)
  (al (sB (f:="speed") (pv 0) (pv 2) rfl)
  (av (sB (f:="wheels") (pv 0) (bQ jc rfl z_list sH (ad (pv 3) ai)) rfl)))), ?_⟩
 exact zK (K:=K) (ns:=kNames) (c:= .Cart) (xr (sX .name (af 1)) (xr (sX .speed (af 2)) (sX .wheels (PuF.pe (cSF (nc qd (ac (af 3) ag))))))) rfl rfl h
theorem kj{f:Addr}{fd:FuncData}(F:Fun K "loads_from" "loads_from" dG f fd)(g_begins_with:Got P w K mg base 1 "begins_with" ["words","kinds"] (cr K))(g_words_at:Got P w K mg base 1 "words_at" ["rows","place"] (fA K))(g_read_head:Got P w K mg base 6 "read_head" ["words","number","loads"] (jq K))(g_read_wheels:Got P w K mg base 7 "read_wheels" ["rows","place","first"] (iq K))(m_Cart:GotP P w K mg base 1 "Cart" ["self","name","speed","wheels"] (g9 K))(d_Cart:PKd K kNames (clA K "Cart") ["Cart"] ["name","speed","wheels"])(z_len:mg "len"=none):
 FnOk P w K mg base CX0 8 f fd ["rows","first"] (iU K):=by
 refine F.ok bE (fun vs H Q E h=>bu h) (fun cdv A outer s H vs Q E hr h=> ?_)
 have hu:=hr.units
 have h:spP K kNames .pr 2 (fQ 6 hG) vs H Q E:=by rw[←am (fQ 6 hG)];exact h
 refine⟨_,(al (aC (i:=2) bE.nd rfl (by o_reads) (aX ai))
  (al (aC (i:=3) bE.nd rfl (by o_reads) aj)
  (al (jB PassesOwn.never (e7 (bb g_begins_with hr (by o_reads) rfl (ad (bb g_words_at hr (by o_reads) rfl (ad (pv 0) (ad (pv 3) ai))) (ad (bA (ad ax (ad ax ai))) ai)))) (al (aC (i:=4) bE.nd rfl (by o_reads) (bb g_read_head hr (by o_reads) rfl (ad (bb g_words_at hr (by o_reads) rfl (ad (pv 0) (ad (pv 3) ai))) (ad (aq aw (pv 1) (pv 3)) (ad (pv 2) ai)))))
  (al (aC (i:=5) bE.nd rfl (by o_reads) (bb g_read_wheels hr (by o_reads) rfl (ad (pv 0) (ad (aq aw (pv 3) aj) (ad (pv 1) ai)))))
  (al (fN (d3 PySem.F.plainAttrs_list PySem.F.slot_list_append PySem.F.type_list_append cR (pv 2) (ad (wO m_Cart hr (by decide) rfl (ad (aN aD (pv 4) aj (fun _ _=>rfl)) (ad (aN aD (aN aD (pv 4) aj (fun _ _=>rfl)) aj (fun _ _=>rfl)) (ad (pv 5) ai)))) ai)))
  (av (aC (i:=3) bE.nd rfl (by o_reads) (aq aw (aq aw (pv 3) aj) (aF d4 rfl z_len cq (ad (pv 5) ai)))))))))
  (av (aL (bA (ad (pv 2) (ad (pv 3) ai)))))))), ?_⟩
 exact zQ (K:=K) (ns:=kNames) (fl':=[]) (n:=6) (b:=hG)
  (aB (kN 2 (bg ag) (by decide))
  (aB (aW 3 (ak _))
  (aB (qj (iZ (bK (ac (PuF.pe (dW (ac (af 0) (ac (af 3) ag)))) (ac (bP (ac (ay _) (ac (ay _) ag))) ag))))
  (aB (tf 4 (bK (ac (PuF.pe (dW (ac (af 0) (ac (af 3) ag)))) (ac (oS (ah az (af 1) (af 3))) (ac (af 2) ag)))))
  (aB (aW 5 (PuF.pe (dW (ac (af 0) (ac (oS (ah az (af 3) (ak _))) (ac (af 1) ag))))))
  (aB (nD 2 (uu .Cart d_Cart (ac (oS (ah aP (af 4) (ak _))) (ac (oS (ah aP (oS (ah aP (af 4) (ak _))) (ak _))) (ac (af 5) ag)))) rfl)
  (aW 3 (oS (ah az (oS (ah az (af 3) (ak _))) (cS (aK bC (ac (af 5) ag))))))))))
  (Cd 2 (af 3) rfl)))) rfl (by decide) h
theorem oF{f:Addr}{fd:FuncData}(F:Fun K "loads_from" "loads_from" dG f fd)(g_begins_with:Got P w K mg base 1 "begins_with" ["words","kinds"] (cr K))(g_words_at:Got P w K mg base 1 "words_at" ["rows","place"] (fA K))(gx_read_head:GotB P w K mg base 6 "read_head" ["words","number","loads"] (lb K))(gx_read_wheels:GotB P w K mg base 7 "read_wheels" ["rows","place","first"] (jN K))(m_Cart:GotP P w K mg base 1 "Cart" ["self","name","speed","wheels"] (g9 K))(d_Cart:PKd K kNames (clA K "Cart") ["Cart"] ["name","speed","wheels"])(z_len:mg "len"=none):
 FnOk P w K mg base (CX1 P w) 8 f fd ["rows","first"] (spX K kNames 2 cb):=by
 refine F.okX bE (fun vs H Q E h=>kS h) (fun cdv A outer s H vs Q E hr h=> ?_)
 have hu:=hr.units
 have h:spX K kNames 2 (j9 6 eQ) vs H Q E:=by rw[←am (j9 6 eQ)];exact h
 refine⟨_,(al (aC (i:=2) bE.nd rfl (by o_reads) (aX ai))
  (al (aC (i:=3) bE.nd rfl (by o_reads) aj)
  (al (jB (DO eZ) (e7 (bb g_begins_with hr (by o_reads) rfl (ad (bb g_words_at hr (by o_reads) rfl (ad (pv 0) (ad (pv 3) ai))) (ad (bA (ad ax (ad ax ai))) ai)))) (al (aC (i:=4) bE.nd rfl (by o_reads) (qp eZ gx_read_head hr (by o_reads) rfl (ad (bb g_words_at hr (by o_reads) rfl (ad (pv 0) (ad (pv 3) ai))) (ad (aq aw (pv 1) (pv 3)) (ad (pv 2) ai)))))
  (al (aC (i:=5) bE.nd rfl (by o_reads) (qp eZ gx_read_wheels hr (by o_reads) rfl (ad (pv 0) (ad (aq aw (pv 3) aj) (ad (pv 1) ai)))))
  (al (fN (d3 PySem.F.plainAttrs_list PySem.F.slot_list_append PySem.F.type_list_append cR (pv 2) (ad (wO m_Cart hr (by decide) rfl (ad (aN aD (pv 4) aj (fun _ _=>rfl)) (ad (aN aD (aN aD (pv 4) aj (fun _ _=>rfl)) aj (fun _ _=>rfl)) (ad (pv 5) ai)))) ai)))
  (av (aC (i:=3) bE.nd rfl (by o_reads) (aq aw (aq aw (pv 3) aj) (aF d4 rfl z_len cq (ad (pv 5) ai)))))))))
  (av (aL (bA (ad (pv 2) (ad (pv 3) ai)))))))), ?_⟩
 exact kU (K:=K) (ns:=kNames) (n:=6) (b:=eQ)
  (jm (fr:= .no) (lf:=[]) (kN 2 (bg ag) (by decide))
  (jm (fr:= .no) (lf:=[]) (aW 3 (ak _))
  (ky (uz (fr:= .no) (iZ (bK (ac (PuF.pe (dW (ac (af 0) (ac (af 3) ag)))) (ac (bP (ac (ay _) (ac (ay _) ag))) ag)))) (uy (fr:= .no) (lf:=[]) (xO (my (ac (PuF.pe (dW (ac (af 0) (ac (af 3) ag)))) (ac (oS (ah az (af 1) (af 3))) (ac (af 2) ag))))) (tf 4 (tq (ac (PuF.pe (dW (ac (af 0) (ac (af 3) ag)))) (ac (oS (ah az (af 1) (af 3))) (ac (af 2) ag)))))
  (ky (xO (my (ac (af 0) (ac (oS (ah az (af 3) (ak _))) (ac (af 1) ag)))))))
  (aB (tf 4 (tq (ac (PuF.pe (dW (ac (af 0) (ac (af 3) ag)))) (ac (oS (ah az (af 1) (af 3))) (ac (af 2) ag)))))
  (aB (aW 5 (PuF.pe (zX (ac (af 0) (ac (oS (ah az (af 3) (ak _))) (ac (af 1) ag))))))
  (aB (nD 2 (uu .Cart d_Cart (ac (oS (ah aP (af 4) (ak _))) (ac (oS (ah aP (oS (ah aP (af 4) (ak _))) (ak _))) (ac (af 5) ag)))) rfl)
  (aW 3 (oS (ah az (oS (ah az (af 3) (ak _))) (cS (aK bC (ac (af 5) ag))))))))))))) rfl (by decide) h
theorem mm{f:Addr}{fd:FuncData}(F:Fun K "loads_of" "loads_of" e8 f fd)(g_rows_of:Got P w K mg base 1 "rows_of" ["text"] (jp K))(g_loads_from:Got P w K mg base 8 "loads_from" ["rows","first"] (iU K))(z_len:mg "len"=none):
 FnOk P w K mg base CX0 9 f fd ["text"] (mh K):=by
 refine F.ok fo (fun vs H Q E h=>bu h) (fun cdv A outer s H vs Q E hr h=> ?_)
 have hu:=hr.units
 have h:spP K kNames .no 1 (bG 3 jt) vs H Q E:=by rw[←am (bG 3 jt)];exact h
 refine⟨_,(al (br (aH (cK hu) (pv 0) ax (aO _)) (av (aL (aX ai))) aM)
  (al (aC (i:=1) fo.nd rfl (by o_reads) (bb g_rows_of hr (by o_reads) rfl (ad (pv 0) ai)))
  (al (aC (i:=2) fo.nd rfl (by o_reads) (bb g_loads_from hr (by o_reads) rfl (ad (pv 1) (ad aj ai))))
  (al (br (aH kG (aN aD (pv 2) aj (fun _ _=>rfl)) (aF d4 rfl z_len cq (ad (pv 1) ai)) (aO _)) (av nG) aM)
  (av (aL (aN aD (pv 2) aj (fun _ _=>rfl)))))))), ?_⟩
 exact cQ (K:=K) (ns:=kNames) (fl':=[]) (n:=3) (b:=jt)
  (aB (cY (aZ (oS (ah d6 (af 0) (ay _)))) (bo (PuF.pe (bg ag)))
  bf)
  (aB (aW 1 (PuF.pe (dW (ac (af 0) ag))))
  (aB (aW 2 (Ce (ac (af 1) (ac (ak _) ag))))
  (aB (cY (aZ (oS (ah kM (oS (ah aP (af 2) (ak _))) (cS (aK bC (ac (af 1) ag)))))) kQ
  bf)
  (bo (oS (ah aP (af 2) (ak _)))))))) rfl (by decide) h
theorem qY{f:Addr}{fd:FuncData}(F:Fun K "loads_of" "loads_of" e8 f fd)(g_rows_of:Got P w K mg base 1 "rows_of" ["text"] (jp K))(gx_loads_from:GotB P w K mg base 8 "loads_from" ["rows","first"] (iV K))(m_BadRow:GotX P w K mg base 1 "BadRow" ["self","row"] (bi K))(d_BadRow:XKd K kNames (clA K "BadRow") ["BadRow","TextError","WayError"] ["row"])(z_len:mg "len"=none):
 FnOk P w K mg base (CX1 P w) 9 f fd ["text"] (spX K kNames 1 ir):=by
 refine F.okX fo (fun vs H Q E h=>kS h) (fun cdv A outer s H vs Q E hr h=> ?_)
 have hu:=hr.units
 have h:spX K kNames 1 (j9 3 gp) vs H Q E:=by rw[←am (j9 3 gp)];exact h
 refine⟨_,(al (br (aH (cK hu) (pv 0) ax (aO _)) (av (aL (aX ai))) aM)
  (al (aC (i:=1) fo.nd rfl (by o_reads) (bb g_rows_of hr (by o_reads) rfl (ad (pv 0) ai)))
  (al (aC (i:=2) fo.nd rfl (by o_reads) (qp eZ gx_loads_from hr (by o_reads) rfl (ad (pv 1) (ad aj ai))))
  (al (br (aH kG (aN aD (pv 2) aj (fun _ _=>rfl)) (aF d4 rfl z_len cq (ad (pv 1) ai)) (aO _)) (av (jK eZ rfl (m6 m_BadRow hr (by decide) rfl (ad (aq aw (aN aD (pv 2) aj (fun _ _=>rfl)) aj) ai)))) aM)
  (av (aL (aN aD (pv 2) aj (fun _ _=>rfl)))))))), ?_⟩
 exact kU (K:=K) (ns:=kNames) (n:=3) (b:=gp)
  (jm (fr:= .no) (lf:=[]) (cY (aZ (oS (ah d6 (af 0) (ay _)))) (bo (PuF.pe (bg ag)))
  bf)
  (jm (fr:= .no) (lf:=[]) (aW 1 (PuF.pe (dW (ac (af 0) ag))))
  (uy (fr:= .no) (lf:=[]) (xO (my (ac (af 1) (ac (ak _) ag)))) (aW 2 (zY (ac (af 1) (ac (ak _) ag))))
  (ky (xP (aZ (oS (ah kM (oS (ah aP (af 2) (ak _))) (cS (aK bC (ac (af 1) ag)))))) (kT d_BadRow (rQ d_BadRow) (oS (ah az (oS (ah aP (af 2) (ak _))) (ak _))))
  nN))))) rfl (by decide) h
theorem oW{f:Addr}{fd:FuncData}(F:Fun K "_law_number" "_law_number" eG f fd)(z_isinstance:mg "isinstance"=none)(z_int:mg "int"=none)(z_bool:mg "bool"=none):
 FnOk P w K mg base CX0 1 f fd ["_law_found"] (gA K):=by
 refine F.ok oP (fun vs H Q E h=>bu h) (fun cdv A outer s H vs Q E hr h=> ?_)
 have hu:=hr.units
 have h:spP K kNames .no 1 (bG 1 eR) vs H Q E:=by rw[←am (bG 1 eR)];exact h
 refine⟨_,(av (aL (vR (aF ro rfl z_isinstance bY (ad (pv 0) (ad (pO (v:= .ty "int") rfl z_int t8 rfl) ai))) (vQ (Bh (aF ro rfl z_isinstance bY (ad (pv 0) (ad (pO (v:= .ty "bool") rfl z_bool BE rfl) ai)))))))), ?_⟩
 exact cQ (K:=K) (ns:=kNames) (fl':=[]) (n:=1) (b:=eR)
  (bo (w6 (cS (xq "int" (by decide) (af 0))) (BV (cS (xq "bool" (by decide) (af 0)))))) rfl (by decide) h
theorem qZ{f:Addr}{fd:FuncData}(F:Fun K "_law_asked" "_law_asked" ft f fd)(g_law_refused:Got P w K mg base 10 "_law_refused" ["_law_rows","_law_first"] (iu K))(z_list:mg "list"=none):
 FnOk P w K mg base CX0 11 f fd ["_law_rows","_law_due","_law_at","_law_first"] (jv K):=by
 refine F.ok kZ (fun vs H Q E h=>bu h) (fun cdv A outer s H vs Q E hr h=> ?_)
 have hu:=hr.units
 have h:spP K kNames .no 4 (bG 5 fJ) vs H Q E:=by rw[←am (bG 5 fJ)];exact h
 refine⟨_,(al (aC (i:=4) kZ.nd rfl (by o_reads) (bQ jc rfl z_list sH (ad (pv 0) ai)))
  (al (br (PW.pt (ij (aH (mQ hu) (bb g_law_refused hr (by o_reads) rfl (ad (pv 4) (ad aj ai))) (bA (ad (pv 1) (ad (aq aw (pv 2) aj) ai))) (aO _)) (ig (aH (mQ hu) (bb g_law_refused hr (by o_reads) rfl (ad (pv 4) (ad (pv 3) ai))) (bA (ad (pv 1) (ad (aq aw (pv 2) (pv 3)) ai))) (aO _))))) (av (aL lY)) aM)
  (av (aL (jY (cK hu) (pv 4) (pv 0) (aO _)))))), ?_⟩
 exact cQ (K:=K) (ns:=kNames) (fl':=[]) (n:=5) (b:=fJ)
  (aB (aW 4 (PuF.pe (cSF (nc qd (ac (af 0) ag)))))
  (aB (cY (eU (aZ (oS (ah uo (bK (ac (af 4) (ac (ak _) ag))) (bP (ac (af 1) (ac (oS (ah az (af 2) (ak _))) ag)))))) (aZ (oS (ah uo (bK (ac (af 4) (ac (af 3) ag))) (bP (ac (af 1) (ac (oS (ah az (af 2) (af 3))) ag))))))) (bo (pq _))
  bf)
  (bo (oS (ah d6 (af 4) (af 0)))))) rfl (by decide) h
theorem rc{f:Addr}{fd:FuncData}(F:Fun K "_law_added" "_law_added" dz f fd)(z_sum:mg "sum"=none)(z_len:mg "len"=none)(z_str:mg "str"=none):
 FnOk P w K mg base CX0 1 f fd ["_law_rows","_law_loads_here","_law_names_here","_law_drawn"] (jw K):=by
 refine F.ok da (fun vs H Q E h=>bu h) (fun cdv A outer s H vs Q E hr h=> ?_)
 have hu:=hr.units
 have h:spP K kNames .no 4 (bG 11 fK) vs H Q E:=by rw[←am (bG 11 fK)];exact h
 refine⟨_,(al (aC (i:=4) da.nd rfl (by o_reads) (aq bd (pv 3) aj))
  (al (aC (i:=5) da.nd rfl (by o_reads) (aq bj (pv 3) aj))
  (al (aC (i:=6) da.nd rfl (by o_reads) (aq bd (pv 5) (aF d4 rfl z_len cq (ad (pv 1) ai))))
  (al (aC (i:=7) da.nd rfl (by o_reads) (aF (iN rfl) rfl z_sum wR (ad (gD [] [] (CompC.to nU rfl rfl) rfl (eS (gu (bt slX (pv 1) bX (bI (pv 6)))) (eS (iL (bt slX (pv 1) bX (bI (pv 6)))) (iM (bt slX (pv 1) bX (bI (pv 6)))))) (fun _ _ _ _ _=>gS) (fun _ _ _ _ _=>(aq (m9 (K:=K) rfl) aj (aF (Dr (K:=K) rfl) rfl z_len cq (ad (aN (pY (K:=K) rfl) (pv 0) aj (fun _ _=>rfl)) ai))))) ai)))
  (al (aC (i:=8) da.nd rfl (by o_reads) (aq aw (aq aw (pv 7) aj) (aF d4 rfl z_len cq (ad (aN aD (aN aD (pv 1) (pv 6) (fun _ _=>rfl)) aj (fun _ _=>rfl)) ai))))
  (al (br (aH (cK hu) (pv 4) aj (aO _)) (av (aL (bA (ad aj (ad (aN aD (aX (ad ax (ad ax (ad ax ai)))) (aq bd (aq bj (pv 5) aj) aj) (fun _ _=>rfl)) (ad ax ai)))))) aM)
  (al (br (aH (cK hu) (pv 4) aj (aO _)) (al (br (aH (cK hu) (aF d4 rfl z_len cq (ad (aN aD (aN aD (pv 1) (pv 6) (fun _ _=>rfl)) aj (fun _ _=>rfl)) ai)) aj (aO _)) (av (aL (bA (ad (aq aw (pv 7) aj) (ad (aN aD (aX (ad ax (ad ax ai))) (aq bd (aq bj (pv 5) aj) aj) (fun _ _=>rfl)) (ad ax ai)))))) aM)
  (av (aL (bA (ad (aq aw (pv 7) aj) (ad (aq aw (aq aw ax (aN aD (pv 2) aj (fun _ _=>rfl))) ax) (ad ax ai))))))) aM)
  (al (br (aH (cK hu) (pv 4) aj (aO _)) (av (aL (bA (ad (aq aw (pv 7) aj) (ad (aN aD (aX (ad ax (ad (aq aw (aq aw ax (aN aD (aN aD (pv 1) (pv 6) (fun _ _=>rfl)) aj (fun _ _=>rfl))) ax) (ad ax (ad ax ai))))) (aq bd (aq bj (pv 5) aj) aj) (fun _ _=>rfl)) (ad ax ai)))))) aM)
  (al (br (PW.pt (mK (aH (cK hu) (pv 4) aj (aO _)) (kF (aH kG (aF d4 rfl z_len cq (ad (aN aD (aN aD (pv 1) (pv 6) (fun _ _=>rfl)) aj (fun _ _=>rfl)) ai)) aj (aO _))))) (al (aC (i:=9) da.nd rfl (by o_reads) (aF (iN rfl) rfl z_sum wR (ad (gD [] [] (CompC.to nV rfl rfl) rfl (eS (gu (bt slX (aN aD (aN aD (pv 1) (pv 6) (fun _ _=>rfl)) aj (fun _ _=>rfl)) (bI aj) bX)) (eS (iL (bt slX (aN aD (aN aD (pv 1) (pv 6) (fun _ _=>rfl)) aj (fun _ _=>rfl)) (bI aj) bX)) (iM (bt slX (aN aD (aN aD (pv 1) (pv 6) (fun _ _=>rfl)) aj (fun _ _=>rfl)) (bI aj) bX)))) (fun _ _ _ _ _=>gS) (fun _ _ _ _ _=>(aN (pY (K:=K) rfl) (pv 0) aj (fun _ _=>rfl)))) ai)))
  (al (br (aH ka (pv 9) aj (aO _)) (av (aL (bA (ad (pv 8) (ad (aq aw (aq aw ax (aN aD (aX (ad (by exact bQ ff rfl z_str ma (ad (aq fO aj (pv 9)) ai)) (ad ax ai))) (aq bd (aq bj (pv 5) aj) aj) (fun _ _=>rfl))) ax) (ad ax ai)))))) aM)
  (av (aL (bA (ad (pv 8) (ad ax (ad ax ai)))))))) aM)
  (al (aC (i:=10) da.nd rfl (by o_reads) (aN aD (aX (ad (aq aw (aq aw ax (aN aD (aN aD (pv 1) (pv 6) (fun _ _=>rfl)) aj (fun _ _=>rfl))) ax) (ad (aq aw (aq aw ax (aN aD (aN aD (pv 1) (pv 6) (fun _ _=>rfl)) aj (fun _ _=>rfl))) ax) (ad (aq aw ax (aN aD (aN aD (pv 1) (pv 6) (fun _ _=>rfl)) aj (fun _ _=>rfl))) ai)))) (aq bd (aq bj (pv 5) aj) aj) (fun _ _=>rfl)))
  (al (br (aH (cK hu) (pv 6) aj (aO _)) (av (aL (bA (ad (pv 8) (ad (pv 10) (ad ax ai)))))) aM)
  (av (aL (bA (ad (pv 8) (ad (pv 10) (ad (aN aD (aX (ad ax (ad ax (ad ax ai)))) (aq bd (aq bj (pv 5) aj) aj) (fun _ _=>rfl)) ai))))))))))))))))), ?_⟩
 exact cQ (K:=K) (ns:=kNames) (fl':=[]) (n:=11) (b:=fK)
  (aB (aW 4 (oS (ah be (af 3) (ak _))))
  (aB (aW 5 (oS (ah bc (af 3) (ak _))))
  (aB (aW 6 (oS (ah be (af 5) (cS (aK bC (ac (af 1) ag))))))
  (aB (aW 7 (cS (aK sS (ac (PuF.pe (iF (iQ (slS (gQ (af 1) im (gI (af 6))))) jh (oS (ah az (ak _) (cS (aK bC (ac (oS (ah aP (af 0) (ak _))) ag))))))) ag))))
  (aB (aW 8 (oS (ah az (oS (ah az (af 7) (ak _))) (cS (aK bC (ac (oS (ah aP (oS (ah aP (af 1) (af 6))) (ak _))) ag))))))
  (aB (cY (aZ (oS (ah d6 (af 4) (ak _)))) (bo (bP (ac (ak _) (ac (oS (ah aP (PuF.pe (bg (ac (ay _) (ac (ay _) (ac (ay _) ag))))) (oS (ah be (oS (ah bc (af 5) (ak _))) (ak _))))) (ac (ay _) ag)))))
  bf)
  (aB (cY (aZ (oS (ah d6 (af 4) (ak _)))) (aB (cY (aZ (oS (ah d6 (cS (aK bC (ac (oS (ah aP (oS (ah aP (af 1) (af 6))) (ak _))) ag))) (ak _)))) (bo (bP (ac (oS (ah az (af 7) (ak _))) (ac (oS (ah aP (PuF.pe (bg (ac (ay _) (ac (ay _) ag)))) (oS (ah be (oS (ah bc (af 5) (ak _))) (ak _))))) (ac (ay _) ag)))))
  bf)
  (bo (bP (ac (oS (ah az (af 7) (ak _))) (ac (oS (ah az (oS (ah az (ay _) (oS (ah aP (af 2) (ak _))))) (ay _))) (ac (ay _) ag))))))
  bf)
  (aB (cY (aZ (oS (ah d6 (af 4) (ak _)))) (bo (bP (ac (oS (ah az (af 7) (ak _))) (ac (oS (ah aP (PuF.pe (bg (ac (ay _) (ac (oS (ah az (oS (ah az (ay _) (oS (ah aP (oS (ah aP (af 1) (af 6))) (ak _))))) (ay _))) (ac (ay _) (ac (ay _) ag)))))) (oS (ah be (oS (ah bc (af 5) (ak _))) (ak _))))) (ac (ay _) ag)))))
  bf)
  (aB (cY (kL (aZ (oS (ah d6 (af 4) (ak _)))) (aZ (oS (ah kM (cS (aK bC (ac (oS (ah aP (oS (ah aP (af 1) (af 6))) (ak _))) ag))) (ak _))))) (aB (aW 9 (cS (aK sS (ac (PuF.pe (iF (iQ (slS (gQ (oS (ah aP (oS (ah aP (af 1) (af 6))) (ak _))) (gI (ak _)) im))) jh (oS (ah aP (af 0) (ak _))))) ag))))
  (aB (cY (aZ (oS (ah jE (af 9) (ak _)))) (bo (bP (ac (af 8) (ac (oS (ah az (oS (ah az (ay _) (oS (ah aP (PuF.pe (bg (ac (cS (aK jJ (ac (oS (ah fP (ak _) (af 9))) ag))) (ac (ay _) ag)))) (oS (ah be (oS (ah bc (af 5) (ak _))) (ak _))))))) (ay _))) (ac (ay _) ag)))))
  bf)
  (bo (bP (ac (af 8) (ac (ay _) (ac (ay _) ag)))))))
  bf)
  (aB (aW 10 (oS (ah aP (PuF.pe (bg (ac (oS (ah az (oS (ah az (ay _) (oS (ah aP (oS (ah aP (af 1) (af 6))) (ak _))))) (ay _))) (ac (oS (ah az (oS (ah az (ay _) (oS (ah aP (oS (ah aP (af 1) (af 6))) (ak _))))) (ay _))) (ac (oS (ah az (ay _) (oS (ah aP (oS (ah aP (af 1) (af 6))) (ak _))))) ag))))) (oS (ah be (oS (ah bc (af 5) (ak _))) (ak _))))))
  (aB (cY (aZ (oS (ah d6 (af 6) (ak _)))) (bo (bP (ac (af 8) (ac (af 10) (ac (ay _) ag)))))
  bf)
  (bo (bP (ac (af 8) (ac (af 10) (ac (oS (ah aP (PuF.pe (bg (ac (ay _) (ac (ay _) (ac (ay _) ag))))) (oS (ah be (oS (ah bc (af 5) (ak _))) (ak _))))) ag)))))))))))))))) rfl (by decide) h
theorem ly{f:Addr}{fd:FuncData}(F:Fun K "_law_bad_number" "_law_bad_number" cI f fd)(z_str:mg "str"=none)(z_len:mg "len"=none):
 FnOk P w K mg base CX0 1 f fd ["_law_drawn","_law_least","_law_most"] (fU K):=by
 refine F.ok fR (fun vs H Q E h=>bu h) (fun cdv A outer s H vs Q E hr h=> ?_)
 have hu:=hr.units
 have h:spP K kNames .no 3 (bG 4 cJ) vs H Q E:=by rw[←am (bG 4 cJ)];exact h
 refine⟨_,(al (aC (i:=3) fR.nd rfl (by o_reads) (aX (ad (aq aw ax (by exact bQ ff rfl z_str ma (ad (pv 2) ai))) (ad ax (ad ax (ad ax (ad ax (ad (aq aw (by exact bQ ff rfl z_str ma (ad (pv 2) ai)) ax) (ad (aq gv ax aj) (ad ax (ad (by exact bQ ff rfl z_str ma (ad (aq aw (pv 2) aj) ai)) (ad (by exact bQ ff rfl z_str ma (ad (aq aw (pv 2) aj) ai)) ai))))))))))))
  (al (br (aH ka (pv 1) aj (aO _)) (av (aC (i:=3) fR.nd rfl (by o_reads) (aq aw (pv 3) (aX (ad (by exact bQ ff rfl z_str ma (ad (aq fO (pv 1) aj) ai)) (ad ax ai)))))) aM)
  (av (aL (aN aD (pv 3) (aq bd (pv 0) (aF d4 rfl z_len cq (ad (pv 3) ai))) (fun _ _=>rfl)))))), ?_⟩
 exact cQ (K:=K) (ns:=kNames) (fl':=[]) (n:=4) (b:=cJ)
  (aB (aW 3 (PuF.pe (bg (ac (oS (ah az (ay _) (cS (aK jJ (ac (af 2) ag))))) (ac (ay _) (ac (ay _) (ac (ay _) (ac (ay _) (ac (oS (ah az (cS (aK jJ (ac (af 2) ag))) (ay _))) (ac (oS (ah iO (ay _) (ak _))) (ac (ay _) (ac (cS (aK jJ (ac (oS (ah az (af 2) (ak _))) ag))) (ac (cS (aK jJ (ac (oS (ah az (af 2) (ak _))) ag))) ag)))))))))))))
  (aB (cY (aZ (oS (ah jE (af 1) (ak _)))) (aW 3 (oS (ah az (af 3) (PuF.pe (bg (ac (cS (aK jJ (ac (oS (ah fP (af 1) (ak _))) ag))) (ac (ay _) ag)))))))
  bf)
  (bo (oS (ah aP (af 3) (oS (ah be (af 0) (cS (aK bC (ac (af 3) ag)))))))))) rfl (by decide) h
theorem sk{f:Addr}{fd:FuncData}(F:Fun K "_law_form" "_law_form" ge f fd)(g_law_bad_number:Got P w K mg base 1 "_law_bad_number" ["_law_drawn","_law_least","_law_most"] (fU K))(z_int:mg "int"=none)(z_len:mg "len"=none):
 FnOk P w K mg base CX0 2 f fd ["_law_row","_law_drawn"] (jQ K):=by
 refine F.ok dv (fun vs H Q E h=>bu h) (fun cdv A outer s H vs Q E hr h=> ?_)
 have hu:=hr.units
 have h:spP K kNames .no 2 (bG 7 gq) vs H Q E:=by rw[←am (bG 7 gq)];exact h
 refine⟨_,(al (aC (i:=2) dv.nd rfl (by o_reads) (d3 PySem.F.plainAttrs_str PySem.F.slot_str_split PySem.F.type_str_split nH (pv 0) (ad ax ai)))
  (al (aC (i:=3) dv.nd rfl (by o_reads) (aq bj (pv 1) aj))
  (al (br (aH (cK hu) (aq bd (pv 1) aj) aj (aO _)) (al (aC (i:=4) dv.nd rfl (by o_reads) (aq aw (aq aw (d3 PySem.F.plainAttrs_str PySem.F.slot_str_join PySem.F.type_str_join je ax (ad (bt slX (pv 2) bX (bI (aq fO (aF d4 rfl z_len cq (ad (pv 2) ai)) aj))) ai)) ax) (aN aD (pv 2) (aq fO (aF d4 rfl z_len cq (ad (pv 2) ai)) aj) (fun _ _=>rfl))))
  (av (aL (aN aD (aX (ad (aq aw (pv 0) ax) (ad (aq aw (pv 0) ax) (ad (aq aw (pv 0) ax) (ad (aq aw (pv 0) ax) (ad (pv 4) ai)))))) (aq bd (pv 3) aj) (fun _ _=>rfl))))) aM)
  (al (br (aH (cK hu) (aq bd (pv 1) aj) aj (aO _)) (av (aL (d3 PySem.F.plainAttrs_str PySem.F.slot_str_join PySem.F.type_str_join je ax (ad (bt slX (pv 2) bX (bI (aq fO (aF d4 rfl z_len cq (ad (pv 2) ai)) aj))) ai)))) aM)
  (al (br (aH (cK hu) (aq bd (pv 1) aj) aj (aO _)) (av (aL (aq aw (aq aw (aN aD (pv 2) aj (fun _ _=>rfl)) ax) (d3 PySem.F.plainAttrs_str PySem.F.slot_str_join PySem.F.type_str_join je ax (ad (bt slX (pv 2) (bI aj) bX) ai))))) aM)
  (al (br (PW.pt (mK (aH (cK hu) (aN aD (pv 2) aj (fun _ _=>rfl)) ax (aO _)) (kF (aH (cK hu) (aq bd (pv 1) aj) aj (aO _))))) (av (aL (aq aw (d3 PySem.F.plainAttrs_str PySem.F.slot_str_join PySem.F.type_str_join je ax (ad (bt slX (pv 2) bX (bI aj)) ai)) (aN aD (aX (ad ax (ad ax (ad ax ai)))) (aq bd (pv 3) aj) (fun _ _=>rfl))))) aM)
  (al (aC (i:=5) dv.nd rfl (by o_reads) (aq aw aj (aq bd (pv 3) (aq fO (aF d4 rfl z_len cq (ad (pv 2) ai)) aj))))
  (al (aC (i:=6) dv.nd rfl (by o_reads) (aN aD (aX (ad ax (ad ax (ad ax (ad ax (ad ax (ad ax (ad ax ai)))))))) (aq bd (aq bj (pv 3) aj) aj) (fun _ _=>rfl)))
  (al (br (PW.pt (mK (aH (cK hu) (aN aD (pv 2) aj (fun _ _=>rfl)) ax (aO _)) (kF (aH (cK hu) (pv 5) aj (aO _))))) (av (aC (i:=6) dv.nd rfl (by o_reads) (bb g_law_bad_number hr (by o_reads) rfl (ad (aq bj (pv 3) aj) (ad aj (ad aj ai)))))) aM)
  (al (br (aH (cK hu) (aN aD (pv 2) aj (fun _ _=>rfl)) ax (aO _)) (av (aC (i:=6) dv.nd rfl (by o_reads) (bb g_law_bad_number hr (by o_reads) rfl (ad (aq bj (pv 3) aj) (ad (bQ lG rfl z_int t8 (ad (jY (cK hu) (pv 5) aj (aO _)) ai)) (ad (aN aD (aX (ad aj (ad aj (ad aj ai)))) (aq fO (pv 5) aj) (fun _ _=>rfl)) ai)))))) aM)
  (av (aL (d3 PySem.F.plainAttrs_str PySem.F.slot_str_join PySem.F.type_str_join je ax (ad (aq aw (aq aw (bt slX (pv 2) bX (bI (pv 5))) (aX (ad (pv 6) ai))) (bt slX (pv 2) (bI (aq aw (pv 5) aj)) bX)) ai)))))))))))))), ?_⟩
 exact cQ (K:=K) (ns:=kNames) (fl':=[]) (n:=7) (b:=gq)
  (aB (aW 2 (PuF.pe (mSF (nI (af 0) (ac (ay _) ag)))))
  (aB (aW 3 (oS (ah bc (af 1) (ak _))))
  (aB (cY (aZ (oS (ah d6 (oS (ah be (af 1) (ak _))) (ak _)))) (aB (aW 4 (oS (ah az (oS (ah az (mS (jj (ay _) (ac (slS (gQ (af 2) im (gI (oS (ah fP (cS (aK bC (ac (af 2) ag))) (ak _)))))) ag))) (ay _))) (oS (ah aP (af 2) (oS (ah fP (cS (aK bC (ac (af 2) ag))) (ak _))))))))
  (bo (oS (ah aP (PuF.pe (bg (ac (oS (ah az (af 0) (ay _))) (ac (oS (ah az (af 0) (ay _))) (ac (oS (ah az (af 0) (ay _))) (ac (oS (ah az (af 0) (ay _))) (ac (af 4) ag))))))) (oS (ah be (af 3) (ak _)))))))
  bf)
  (aB (cY (aZ (oS (ah d6 (oS (ah be (af 1) (ak _))) (ak _)))) (bo (mS (jj (ay _) (ac (slS (gQ (af 2) im (gI (oS (ah fP (cS (aK bC (ac (af 2) ag))) (ak _)))))) ag))))
  bf)
  (aB (cY (aZ (oS (ah d6 (oS (ah be (af 1) (ak _))) (ak _)))) (bo (oS (ah az (oS (ah az (oS (ah aP (af 2) (ak _))) (ay _))) (mS (jj (ay _) (ac (slS (gQ (af 2) (gI (ak _)) im)) ag))))))
  bf)
  (aB (cY (kL (aZ (oS (ah d6 (oS (ah aP (af 2) (ak _))) (ay _)))) (aZ (oS (ah d6 (oS (ah be (af 1) (ak _))) (ak _))))) (bo (oS (ah az (mS (jj (ay _) (ac (slS (gQ (af 2) im (gI (ak _)))) ag))) (oS (ah aP (PuF.pe (bg (ac (ay _) (ac (ay _) (ac (ay _) ag))))) (oS (ah be (af 3) (ak _))))))))
  bf)
  (aB (aW 5 (oS (ah az (ak _) (oS (ah be (af 3) (oS (ah fP (cS (aK bC (ac (af 2) ag))) (ak _))))))))
  (aB (aW 6 (oS (ah aP (PuF.pe (bg (ac (ay _) (ac (ay _) (ac (ay _) (ac (ay _) (ac (ay _) (ac (ay _) (ac (ay _) ag))))))))) (oS (ah be (oS (ah bc (af 3) (ak _))) (ak _))))))
  (aB (cY (kL (aZ (oS (ah d6 (oS (ah aP (af 2) (ak _))) (ay _)))) (aZ (oS (ah d6 (af 5) (ak _))))) (aW 6 (bK (ac (oS (ah bc (af 3) (ak _))) (ac (ak _) (ac (ak _) ag)))))
  bf)
  (aB (cY (aZ (oS (ah d6 (oS (ah aP (af 2) (ak _))) (ay _)))) (aW 6 (bK (ac (oS (ah bc (af 3) (ak _))) (ac (cS (aK ql (ac (oS (ah d6 (af 5) (ak _))) ag))) (ac (oS (ah aP (PuF.pe (bg (ac (ak _) (ac (ak _) (ac (ak _) ag))))) (oS (ah fP (af 5) (ak _))))) ag)))))
  bf)
  (bo (mS (jj (ay _) (ac (oS (ah az (oS (ah az (slS (gQ (af 2) im (gI (af 5)))) (PuF.pe (bg (ac (af 6) ag))))) (slS (gQ (af 2) (gI (oS (ah az (af 5) (ak _)))) im)))) ag)))))))))))))) rfl (by decide) h
theorem CT{f:Addr}{fd:FuncData}(F:Fun K "law" "law" la f fd)(g_law_loads:Got P w K mg base 3 "_law_loads" ["_law_script","_law_most"] (jo K))(g_law_load_rows:Got P w K mg base 1 "_law_load_rows" ["_law_loads_here"] (eK K))(g_law_seventh:Got P w K mg base 2 "_law_seventh" ["_law_loads_here","_law_names_here"] (ip K))(g_law_asked:Got P w K mg base 11 "_law_asked" ["_law_rows","_law_due","_law_at","_law_first"] (jv K))(g_law_mix:Got P w K mg base 1 "_law_mix" ["_law_cell_here","_law_one","_law_prime"] (gf K))(g_law_cell:Got P w K mg base 1 "_law_cell" ["_law_script","_law_k"] (iH K))(g_law_added:Got P w K mg base 1 "_law_added" ["_law_rows","_law_loads_here","_law_names_here","_law_drawn"] (jw K))(g_law_form:Got P w K mg base 2 "_law_form" ["_law_row","_law_drawn"] (jQ K))(z_len:mg "len"=none)(z_int:mg "int"=none):
 FnOk P w K mg base CX0 12 f fd ["_law_script"] (qR K):=by
 refine F.ok eu (fun vs H Q E h=>by obtain⟨a,ns,rfl,_⟩:=h;rfl) (fun cdv A outer s H vs Q E hr h=> ?_)
 obtain⟨a,ns,e,hS,hlen,k⟩:=h
 have h:spP K kNames .no 1 uC vs H Q E:=B4 e hS (yS ns hlen) k
 have hu:=hr.units
 simp only[uC,am] at h
 refine⟨_,(al (vU (bb g_law_loads hr (by o_reads) rfl (ad (pv 0) (ad aj ai))) (pP rfl (eV (dC (i:=1) eu.nd rfl (by o_reads)) (eV (dC (i:=2) eu.nd rfl (by o_reads)) mw))))
  (al (br (aH (cK hu) (pv 2) (aX ai) (aO _)) (av (aC (i:=2) eu.nd rfl (by o_reads) (aX (ad (bA (ad (aN aD (pv 1) aj (fun _ _=>rfl)) (ad aj (ad (aX (ad (bA (ad aj (ad aj (ad aj ai)))) (ad (bA (ad aj (ad aj (ad aj ai)))) (ad (bA (ad aj (ad aj (ad aj ai)))) ai)))) ai)))) ai)))) aM)
  (al (aC (i:=3) eu.nd rfl (by o_reads) (bb g_law_load_rows hr (by o_reads) rfl (ad (pv 2) ai)))
  (al (aC (i:=4) eu.nd rfl (by o_reads) (aq aw aj (aq bd (bb g_law_cell hr (by o_reads) rfl (ad (pv 0) (ad aj ai))) aj)))
  (al (aC (i:=5) eu.nd rfl (by o_reads) (bb g_law_seventh hr (by o_reads) rfl (ad (pv 2) (ad (pv 1) ai))))
  (al (br (gM (e7 (bb g_law_asked hr (by o_reads) rfl (ad (pv 5) (ad ax (ad (aq fO (aF d4 rfl z_len cq (ad (pv 5) ai)) aj) (ad (pv 4) ai))))))) (av (aL lY)) aM)
  (al (br (gM (e7 (bb g_law_asked hr (by o_reads) rfl (ad (aq aw (pv 3) (aX (ad (aq aw (aq aw ax (aN aD (pv 1) aj (fun _ _=>rfl))) ax) ai))) (ad ax (ad (aq aw (aF d4 rfl z_len cq (ad (pv 3) ai)) (bQ lG rfl z_int t8 (ad (jY kG (aF d4 rfl z_len cq (ad (pv 2) ai)) aj (aO _)) ai))) (ad (pv 4) ai))))))) (av (aL lY)) aM)
  (al (lC PassesOwn.never rfl (eS (gu (aq aw (aX (ad (aq aw (bb g_law_cell hr (by o_reads) rfl (ad (pv 0) (ad aj ai))) (aF d4 rfl z_len cq (ad (pv 0) ai))) ai)) (bt slX (pv 0) (bI aj) (bI aj)))) (eS (iL (aq aw (aX (ad (aq aw (bb g_law_cell hr (by o_reads) rfl (ad (pv 0) (ad aj ai))) (aF d4 rfl z_len cq (ad (pv 0) ai))) ai)) (bt slX (pv 0) (bI aj) (bI aj)))) (iM (aq aw (aX (ad (aq aw (bb g_law_cell hr (by o_reads) rfl (ad (pv 0) (ad aj ai))) (aF d4 rfl z_len cq (ad (pv 0) ai))) ai)) (bt slX (pv 0) (bI aj) (bI aj)))))) (dC (i:=6) eu.nd rfl (by o_reads)) (al (aC (i:=7) eu.nd rfl (by o_reads) (bb g_law_mix hr (by o_reads) rfl (ad (pv 6) (ad aj (ad aj ai)))))
  (al (aC (i:=8) eu.nd rfl (by o_reads) (aq bd (aq bj (pv 7) aj) (aF d4 rfl z_len cq (ad (pv 3) ai))))
  (al (aC (i:=9) eu.nd rfl (by o_reads) (aq aw (aq aw (bt slX (pv 3) bX (bI (pv 8))) (aX (ad (bb g_law_form hr (by o_reads) rfl (ad (aN aD (pv 3) (pv 8) (fun _ _=>rfl)) (ad (aq bj (pv 7) aj) ai))) ai))) (bt slX (pv 3) (bI (aq aw (pv 8) aj)) bX)))
  (al (aC (i:=10) eu.nd rfl (by o_reads) ax)
  (al (br (aH (cK hu) (aq bd (pv 7) aj) aj (aO _)) (al (vU (bb g_law_added hr (by o_reads) rfl (ad (pv 3) (ad (pv 2) (ad (pv 1) (ad (aq bj (pv 7) aj) ai))))) (pP rfl (eV (dC (i:=8) eu.nd rfl (by o_reads)) (eV (dC (i:=11) eu.nd rfl (by o_reads)) (eV (dC (i:=10) eu.nd rfl (by o_reads)) mw)))))
  (av (aC (i:=9) eu.nd rfl (by o_reads) (aq aw (aq aw (bt slX (pv 3) bX (bI (pv 8))) (aX (ad (pv 11) ai))) (bt slX (pv 3) (bI (pv 8)) bX))))) aM)
  (al (br (aH (cK hu) (aq bd (pv 6) aj) aj (aO _)) (av (aC (i:=9) eu.nd rfl (by o_reads) (aq aw (pv 9) (aX (ad (aN aD (aX (ad ax (ad ax (ad (aq aw (aq aw ax (aN aD (aN aD (pv 2) aj (fun _ _=>rfl)) aj (fun _ _=>rfl))) ax) ai)))) (aq bd (aq bj (pv 6) aj) aj) (fun _ _=>rfl)) ai))))) aM)
  (av (br (gM (e7 (bb g_law_asked hr (by o_reads) rfl (ad (pv 9) (ad (pv 10) (ad (pv 8) (ad (pv 4) ai))))))) (av (aL lY)) aM)))))))))
  (av (aL lY)))))))))), ?_⟩
 exact cQ (K:=K) (ns:=kNames) (fl':=[]) (n:=12) (b:=uB)
  (aB (AM (bK (ac (af 0) (ac (ak _) ag))) (xn (iG (i:=1) rfl (iG (i:=2) rfl sW))))
  (aB (cY (aZ (oS (ah d6 (af 2) (PuF.pe (bg ag))))) (aW 2 (PuF.pe (bg (ac (bP (ac (oS (ah aP (af 1) (ak _))) (ac (ak _) (ac (PuF.pe (bg (ac (bP (ac (ak _) (ac (ak _) (ac (ak _) ag)))) (ac (bP (ac (ak _) (ac (ak _) (ac (ak _) ag)))) (ac (bP (ac (ak _) (ac (ak _) (ac (ak _) ag)))) ag))))) ag)))) ag))))
  bf)
  (aB (aW 3 (PuF.pe (dW (ac (af 2) ag))))
  (aB (aW 4 (oS (ah az (ak _) (oS (ah be (bK (ac (af 0) (ac (ak _) ag))) (ak _))))))
  (aB (aW 5 (bK (ac (af 2) (ac (af 1) ag))))
  (aB (cY (gU (iZ (bK (ac (af 5) (ac (ay _) (ac (oS (ah fP (cS (aK bC (ac (af 5) ag))) (ak _))) (ac (af 4) ag))))))) (bo (pq _))
  bf)
  (aB (cY (gU (iZ (bK (ac (oS (ah az (af 3) (PuF.pe (bg (ac (oS (ah az (oS (ah az (ay _) (oS (ah aP (af 1) (ak _))))) (ay _))) ag))))) (ac (ay _) (ac (oS (ah az (cS (aK bC (ac (af 3) ag))) (cS (aK ql (ac (oS (ah kM (cS (aK bC (ac (af 2) ag))) (ak _))) ag))))) (ac (af 4) ag))))))) (bo (pq _))
  bf)
  (aB (pw (iQ (oS (ah az (PuF.pe (bg (ac (oS (ah az (bK (ac (af 0) (ac (ak _) ag))) (cS (aK bC (ac (af 0) ag))))) ag))) (slS (gQ (af 0) (gI (ak _)) (gI (ak _))))))) (lL 6 rfl)
  (aB (aW 7 (bK (ac (af 6) (ac (ak _) (ac (ak _) ag)))))
  (aB (aW 8 (oS (ah be (oS (ah bc (af 7) (ak _))) (cS (aK bC (ac (af 3) ag))))))
  (aB (aW 9 (oS (ah az (oS (ah az (slS (gQ (af 3) im (gI (af 8)))) (PuF.pe (bg (ac (bK (ac (oS (ah aP (af 3) (af 8))) (ac (oS (ah bc (af 7) (ak _))) ag))) ag))))) (slS (gQ (af 3) (gI (oS (ah az (af 8) (ak _)))) im)))))
  (aB (aW 10 (ay _))
  (aB (cY (aZ (oS (ah d6 (oS (ah be (af 7) (ak _))) (ak _)))) (aB (AM (bK (ac (af 3) (ac (af 2) (ac (af 1) (ac (oS (ah bc (af 7) (ak _))) ag))))) (xn (iG (i:=8) rfl (iG (i:=11) rfl (iG (i:=10) rfl sW)))))
  (aW 9 (oS (ah az (oS (ah az (slS (gQ (af 3) im (gI (af 8)))) (PuF.pe (bg (ac (af 11) ag))))) (slS (gQ (af 3) (gI (af 8)) im))))))
  bf)
  (aB (cY (aZ (oS (ah d6 (oS (ah be (af 6) (ak _))) (ak _)))) (aW 9 (oS (ah az (af 9) (PuF.pe (bg (ac (oS (ah aP (PuF.pe (bg (ac (ay _) (ac (ay _) (ac (oS (ah az (oS (ah az (ay _) (oS (ah aP (oS (ah aP (af 2) (ak _))) (ak _))))) (ay _))) ag))))) (oS (ah be (oS (ah bc (af 6) (ak _))) (ak _))))) ag))))))
  bf)
  (cY (gU (iZ (bK (ac (af 9) (ac (af 10) (ac (af 8) (ac (af 4) ag))))))) (bo (pq _))
  bf))))))))
  (bo (pq _)))))))))) rfl (by decide) h
end
theorem all_mk{l:W.OpenLaw}{w:World}{K:W.Frag}{h:Heap}{mg:Str→Option Value}{fa f0 f1 f2 f3 f4 f5 f6 f7 f8 f9 f10 f11 f12 f13 f14 f15 f16 f17 f18 f19 f20 f21 f22 f23 f24 f25 f26 f27 f28 f29 f30 f31:Addr}(X:K.In h)(G:h.Ns mainGlobals mg)(hfa:mg "law"=some (.ref fa))
 {od0 an0 od1 an1 od2 an2 od3 an3 od4 an4 od5 an5 od6 an6 od7 an7 od8 an8 od9 an9 od10 an10 od11 an11 od12 an12 od13 an13 od14 an14 od15 an15 od16 an16 od17 an17 od18 an18 od19 an19 od20 an20 od21 an21 od22 an22 od23 an23 od24 an24 od25 an25 od26 an26 od27 an27 od28 an28 od29 an29 od30 an30 od31 an31:Option Addr}{sl0 sl1 sl2 sl3 sl4 sl5 sl6 sl7 sl8 sl9 sl10 sl11 sl12 sl13 sl14 sl15 sl16 sl17 sl18 sl19 sl20 sl21 sl22 sl23 sl24 sl25 sl26 sl27 sl28 sl29 sl30 sl31:Array (Option Value)}{oc0 kV0 dc0 pm0 cd0 ct0 oc1 kV1 dc1 pm1 cd1 ct1 oc2 kV2 dc2 pm2 cd2 ct2 oc3 kV3 dc3 pm3 cd3 ct3 oc4 kV4 dc4 pm4 cd4 ct4 oc5 kV5 dc5 pm5 cd5 ct5 oc6 kV6 dc6 pm6 cd6 ct6 oc7 kV7 dc7 pm7 cd7 ct7 oc8 kV8 dc8 pm8 cd8 ct8 oc9 kV9 dc9 pm9 cd9 ct9 oc10 kV10 dc10 pm10 cd10 ct10 oc11 kV11 dc11 pm11 cd11 ct11 oc12 kV12 dc12 pm12 cd12 ct12 oc13 kV13 dc13 pm13 cd13 ct13 oc14 kV14 dc14 pm14 cd14 ct14 oc15 kV15 dc15 pm15 cd15 ct15 oc16 kV16 dc16 pm16 cd16 ct16 oc17 kV17 dc17 pm17 cd17 ct17 oc18 kV18 dc18 pm18 cd18 ct18 oc19 kV19 dc19 pm19 cd19 ct19 oc20 kV20 dc20 pm20 cd20 ct20 oc21 kV21 dc21 pm21 cd21 ct21 oc22 kV22 dc22 pm22 cd22 ct22 oc23 kV23 dc23 pm23 cd23 ct23 oc24 kV24 dc24 pm24 cd24 ct24 oc25 kV25 dc25 pm25 cd25 ct25 oc26 kV26 dc26 pm26 cd26 ct26 oc27 kV27 dc27 pm27 cd27 ct27 oc28 kV28 dc28 pm28 cd28 ct28 oc29 kV29 dc29 pm29 cd29 ct29 oc30 kV30 dc30 pm30 cd30 ct30 oc31 kV31 dc31 pm31 cd31 ct31:Value}
 {C0 C1 C2 C3 C4 C5 C6 C7 C8:Addr}{xd0 xd1 xd2 xd3 xd4 xd5 xd6 xd7 xd8:Option Addr}{xc0 xc1 xc2 xc3 xc4 xc5 xc6 xc7 xc8:ClassData}{xs0 xs1 xs2 xs3 xs4 xs5 xs6 xs7 xs8:Array (Option Value)}
 (x0:W.nsIn K mainGlobals "WayError"=some (some (.ref C0)))(xl0:K.lookup C0=some ⟨.type "type",xd0, .cls xc0,xs0⟩)
 (x1:W.nsIn K mainGlobals "TextError"=some (some (.ref C1)))(xl1:K.lookup C1=some ⟨.type "type",xd1, .cls xc1,xs1⟩)
 (x2:W.nsIn K mainGlobals "BadRow"=some (some (.ref C2)))(xl2:K.lookup C2=some ⟨.type "type",xd2, .cls xc2,xs2⟩)
 (xi2:W.findIn K (.ref C2) "__init__"=some (some (.ref f16)))
 (x3:W.nsIn K mainGlobals "Twice"=some (some (.ref C3)))(xl3:K.lookup C3=some ⟨.type "type",xd3, .cls xc3,xs3⟩)
 (xi3:W.findIn K (.ref C3) "__init__"=some (some (.ref f16)))
 (x4:W.nsIn K mainGlobals "NoBridge"=some (some (.ref C4)))(xl4:K.lookup C4=some ⟨.type "type",xd4, .cls xc4,xs4⟩)
 (x5:W.nsIn K mainGlobals "NoLoad"=some (some (.ref C5)))(xl5:K.lookup C5=some ⟨.type "type",xd5, .cls xc5,xs5⟩)
 (x6:W.nsIn K mainGlobals "TooNear"=some (some (.ref C6)))(xl6:K.lookup C6=some ⟨.type "type",xd6, .cls xc6,xs6⟩)
 (x7:W.nsIn K mainGlobals "TooLong"=some (some (.ref C7)))(xl7:K.lookup C7=some ⟨.type "type",xd7, .cls xc7,xs7⟩)
 (xi7:W.findIn K (.ref C7) "__init__"=some (some (.ref f16)))
 (x8:W.nsIn K mainGlobals "Cart"=some (some (.ref C8)))(xl8:K.lookup C8=some ⟨.type "type",xd8, .cls xc8,xs8⟩)
 (xi8:W.findIn K (.ref C8) "__init__"=some (some (.ref f22)))
 (xo0:xok C0 xc0 xs0=true)(xk0:([C0,C1,C2,C3,C4,C5,C6,C7,C8].map fun D=>xc0.mro.contains (.ref D))=kNames.map (List.contains (α:=Str) ["WayError"]))
 (xa0:W.findIn K (.ref C0) "__getattribute__"=some (some (.builtin "BaseException.__getattribute__")))(xb0:W.findIn K (.ref C0) "__getattr__"=some none)(xe0:W.findIn K (.ref C0) "__setattr__"=some (some (.builtin "object.__setattr__")))(xf0:W.findIn K (.ref C0) "__class__"=some (some (.builtin "object.__class__")))
 (wh0:W.specialIn K (.ref C0) "__getattribute__"=some (some (.builtin "type.__getattribute__")))(wr0:W.readsIn K C0 (.type "type")=true)(wf0:W.findCls K (.ref C0) (.type "type") "__init__"=some (.val (.builtin "ValueError.__init__")))
 (xo1:xok C1 xc1 xs1=true)(xk1:([C0,C1,C2,C3,C4,C5,C6,C7,C8].map fun D=>xc1.mro.contains (.ref D))=kNames.map (List.contains (α:=Str) ["TextError","WayError"]))
 (xa1:W.findIn K (.ref C1) "__getattribute__"=some (some (.builtin "BaseException.__getattribute__")))(xb1:W.findIn K (.ref C1) "__getattr__"=some none)(xe1:W.findIn K (.ref C1) "__setattr__"=some (some (.builtin "object.__setattr__")))(xf1:W.findIn K (.ref C1) "__class__"=some (some (.builtin "object.__class__")))
 (xna1_0:W.findIn K (.ref C1) "row"=some none)
 (xo2:xok C2 xc2 xs2=true)(xk2:([C0,C1,C2,C3,C4,C5,C6,C7,C8].map fun D=>xc2.mro.contains (.ref D))=kNames.map (List.contains (α:=Str) ["BadRow","TextError","WayError"]))
 (xa2:W.findIn K (.ref C2) "__getattribute__"=some (some (.builtin "BaseException.__getattribute__")))(xb2:W.findIn K (.ref C2) "__getattr__"=some none)(xe2:W.findIn K (.ref C2) "__setattr__"=some (some (.builtin "object.__setattr__")))(xf2:W.findIn K (.ref C2) "__class__"=some (some (.builtin "object.__class__")))
 (xn2:W.isFn K (.ref f16)=true)
 (xp2:W.keepIn K (.ref C2)=true)
 (xna2_0:W.findIn K (.ref C2) "row"=some none)
 (xo3:xok C3 xc3 xs3=true)(xk3:([C0,C1,C2,C3,C4,C5,C6,C7,C8].map fun D=>xc3.mro.contains (.ref D))=kNames.map (List.contains (α:=Str) ["Twice","TextError","WayError"]))
 (xa3:W.findIn K (.ref C3) "__getattribute__"=some (some (.builtin "BaseException.__getattribute__")))(xb3:W.findIn K (.ref C3) "__getattr__"=some none)(xe3:W.findIn K (.ref C3) "__setattr__"=some (some (.builtin "object.__setattr__")))(xf3:W.findIn K (.ref C3) "__class__"=some (some (.builtin "object.__class__")))
 (xn3:W.isFn K (.ref f16)=true)
 (xp3:W.keepIn K (.ref C3)=true)
 (xna3_0:W.findIn K (.ref C3) "row"=some none)
 (xo4:xok C4 xc4 xs4=true)(xk4:([C0,C1,C2,C3,C4,C5,C6,C7,C8].map fun D=>xc4.mro.contains (.ref D))=kNames.map (List.contains (α:=Str) ["NoBridge","TextError","WayError"]))
 (xa4:W.findIn K (.ref C4) "__getattribute__"=some (some (.builtin "BaseException.__getattribute__")))(xb4:W.findIn K (.ref C4) "__getattr__"=some none)(xe4:W.findIn K (.ref C4) "__setattr__"=some (some (.builtin "object.__setattr__")))(xf4:W.findIn K (.ref C4) "__class__"=some (some (.builtin "object.__class__")))
 (xna4_0:W.findIn K (.ref C4) "row"=some none)
 (xo5:xok C5 xc5 xs5=true)(xk5:([C0,C1,C2,C3,C4,C5,C6,C7,C8].map fun D=>xc5.mro.contains (.ref D))=kNames.map (List.contains (α:=Str) ["NoLoad","TextError","WayError"]))
 (xa5:W.findIn K (.ref C5) "__getattribute__"=some (some (.builtin "BaseException.__getattribute__")))(xb5:W.findIn K (.ref C5) "__getattr__"=some none)(xe5:W.findIn K (.ref C5) "__setattr__"=some (some (.builtin "object.__setattr__")))(xf5:W.findIn K (.ref C5) "__class__"=some (some (.builtin "object.__class__")))
 (xna5_0:W.findIn K (.ref C5) "row"=some none)
 (xo6:xok C6 xc6 xs6=true)(xk6:([C0,C1,C2,C3,C4,C5,C6,C7,C8].map fun D=>xc6.mro.contains (.ref D))=kNames.map (List.contains (α:=Str) ["TooNear","TextError","WayError"]))
 (xa6:W.findIn K (.ref C6) "__getattribute__"=some (some (.builtin "BaseException.__getattribute__")))(xb6:W.findIn K (.ref C6) "__getattr__"=some none)(xe6:W.findIn K (.ref C6) "__setattr__"=some (some (.builtin "object.__setattr__")))(xf6:W.findIn K (.ref C6) "__class__"=some (some (.builtin "object.__class__")))
 (xna6_0:W.findIn K (.ref C6) "row"=some none)
 (xo7:xok C7 xc7 xs7=true)(xk7:([C0,C1,C2,C3,C4,C5,C6,C7,C8].map fun D=>xc7.mro.contains (.ref D))=kNames.map (List.contains (α:=Str) ["TooLong","TextError","WayError"]))
 (xa7:W.findIn K (.ref C7) "__getattribute__"=some (some (.builtin "BaseException.__getattribute__")))(xb7:W.findIn K (.ref C7) "__getattr__"=some none)(xe7:W.findIn K (.ref C7) "__setattr__"=some (some (.builtin "object.__setattr__")))(xf7:W.findIn K (.ref C7) "__class__"=some (some (.builtin "object.__class__")))
 (xn7:W.isFn K (.ref f16)=true)
 (xp7:W.keepIn K (.ref C7)=true)
 (xna7_0:W.findIn K (.ref C7) "row"=some none)
 (xo8:xc8.mro=[.ref C8, .type "object"])(xk8:([C0,C1,C2,C3,C4,C5,C6,C7,C8].map fun D=>xc8.mro.contains (.ref D))=kNames.map (List.contains (α:=Str) ["Cart"]))
 (xa8:W.plainGet K C8 Str.empty=true)(xb8:W.hasDictIn K C8=true)(xg8:W.plainOver K C8=true)(xe8:W.findIn K (.ref C8) "__setattr__"=some (some (.builtin "object.__setattr__")))(xf8:W.findIn K (.ref C8) "__class__"=some (some (.builtin "object.__class__")))
 (xm8:W.makesIn K C8=true)(xn8:W.isFn K (.ref f22)=true)(xp8:W.keepIn K (.ref C8)=true)
 (xna8_0:W.findIn K (.ref C8) "name"=some none)
 (xna8_1:W.findIn K (.ref C8) "speed"=some none)
 (xna8_2:W.findIn K (.ref C8) "wheels"=some none)
 (xcg:W.specialIn K (.builtin "object.__class__") "__get__"=some (some (.builtin "getset_descriptor.__get__")))(xct:W.takesIn K (.builtin "object.__class__")=some true)
 (a0:W.nsIn K mainGlobals "_law_mix"=some (some (.ref f0)))(l0:K.lookup f0=some ⟨oc0,od0, .func (W.fnOf "_law_mix" "_law_mix" (aT h9) (aR h9) (au h9) .none kV0 dc0 pm0 an0 cd0 ct0),sl0⟩)(c0:W.codeIn K cd0 "_law_mix"=true)(k0:W.keepIn K (.ref f0)=true)
 (a1:W.nsIn K mainGlobals "_law_names"=some (some (.ref f1)))(l1:K.lookup f1=some ⟨oc1,od1, .func (W.fnOf "_law_names" "_law_names" (aT eh) (aR eh) (au eh) .none kV1 dc1 pm1 an1 cd1 ct1),sl1⟩)(c1:W.codeIn K cd1 "_law_names"=true)(k1:W.keepIn K (.ref f1)=true)
 (a2:W.nsIn K mainGlobals "_law_cell"=some (some (.ref f2)))(l2:K.lookup f2=some ⟨oc2,od2, .func (W.fnOf "_law_cell" "_law_cell" (aT gc) (aR gc) (au gc) .none kV2 dc2 pm2 an2 cd2 ct2),sl2⟩)(c2:W.codeIn K cd2 "_law_cell"=true)(k2:W.keepIn K (.ref f2)=true)
 (a3:W.nsIn K mainGlobals "_law_wheels"=some (some (.ref f3)))(l3:K.lookup f3=some ⟨oc3,od3, .func (W.fnOf "_law_wheels" "_law_wheels" (aT eF) (aR eF) (au eF) .none kV3 dc3 pm3 an3 cd3 ct3),sl3⟩)(c3:W.codeIn K cd3 "_law_wheels"=true)(k3:W.keepIn K (.ref f3)=true)
 (a4:W.nsIn K mainGlobals "_law_loads"=some (some (.ref f4)))(l4:K.lookup f4=some ⟨oc4,od4, .func (W.fnOf "_law_loads" "_law_loads" (aT fq) (aR fq) (au fq) .none kV4 dc4 pm4 an4 cd4 ct4),sl4⟩)(c4:W.codeIn K cd4 "_law_loads"=true)(k4:W.keepIn K (.ref f4)=true)
 (a5:W.nsIn K mainGlobals "_law_load_rows"=some (some (.ref f5)))(l5:K.lookup f5=some ⟨oc5,od5, .func (W.fnOf "_law_load_rows" "_law_load_rows" (aT cw) (aR cw) (au cw) .none kV5 dc5 pm5 an5 cd5 ct5),sl5⟩)(c5:W.codeIn K cd5 "_law_load_rows"=true)(k5:W.keepIn K (.ref f5)=true)
 (a6:W.nsIn K mainGlobals "_law_seventh"=some (some (.ref f6)))(l6:K.lookup f6=some ⟨oc6,od6, .func (W.fnOf "_law_seventh" "_law_seventh" (aT dO) (aR dO) (au dO) .none kV6 dc6 pm6 an6 cd6 ct6),sl6⟩)(c6:W.codeIn K cd6 "_law_seventh"=true)(k6:W.keepIn K (.ref f6)=true)
 (a7:W.nsIn K mainGlobals "rows_of"=some (some (.ref f7)))(l7:K.lookup f7=some ⟨oc7,od7, .func (W.fnOf "rows_of" "rows_of" (aT hZ) (aR hZ) (au hZ) .none kV7 dc7 pm7 an7 cd7 ct7),sl7⟩)(c7:W.codeIn K cd7 "rows_of"=true)(k7:W.keepIn K (.ref f7)=true)
 (a8:W.nsIn K mainGlobals "begins_with"=some (some (.ref f8)))(l8:K.lookup f8=some ⟨oc8,od8, .func (W.fnOf "begins_with" "begins_with" (aT dL) (aR dL) (au dL) .none kV8 dc8 pm8 an8 cd8 ct8),sl8⟩)(c8:W.codeIn K cd8 "begins_with"=true)(k8:W.keepIn K (.ref f8)=true)
 (a9:W.nsIn K mainGlobals "words_at"=some (some (.ref f9)))(l9:K.lookup f9=some ⟨oc9,od9, .func (W.fnOf "words_at" "words_at" (aT gb) (aR gb) (au gb) .none kV9 dc9 pm9 an9 cd9 ct9),sl9⟩)(c9:W.codeIn K cd9 "words_at"=true)(k9:W.keepIn K (.ref f9)=true)
 (a10:W.nsIn K mainGlobals "is_row_of"=some (some (.ref f10)))(l10:K.lookup f10=some ⟨oc10,od10, .func (W.fnOf "is_row_of" "is_row_of" (aT d9) (aR d9) (au d9) .none kV10 dc10 pm10 an10 cd10 ct10),sl10⟩)(c10:W.codeIn K cd10 "is_row_of"=true)(k10:W.keepIn K (.ref f10)=true)
 {dt11:Addr}{dcl11:Value}{dod11:Option Addr}{dn11:Nat}{dsl11:Array (Option Value)}
 (a11:W.nsIn K mainGlobals "number_of"=some (some (.ref f11)))(l11:K.lookup f11=some ⟨oc11,od11, .func (W.fnOf "number_of" "number_of" (aT bS) (aR bS) (au bS) (.ref dt11) kV11 dc11 pm11 an11 cd11 ct11),sl11⟩)(c11:W.codeIn K cd11 "number_of"=true)(k11:W.keepIn K (.ref f11)=true)
 (dl11:K.lookup dt11=some ⟨dcl11,dod11, .seq #[.none] dn11,dsl11⟩)
 (a12:W.nsIn K mainGlobals "number_within"=some (some (.ref f12)))(l12:K.lookup f12=some ⟨oc12,od12, .func (W.fnOf "number_within" "number_within" (aT cT) (aR cT) (au cT) .none kV12 dc12 pm12 an12 cd12 ct12),sl12⟩)(c12:W.codeIn K cd12 "number_within"=true)(k12:W.keepIn K (.ref f12)=true)
 (a13:W.nsIn K mainGlobals "numbers_of"=some (some (.ref f13)))(l13:K.lookup f13=some ⟨oc13,od13, .func (W.fnOf "numbers_of" "numbers_of" (aT dE) (aR dE) (au dE) .none kV13 dc13 pm13 an13 cd13 ct13),sl13⟩)(c13:W.codeIn K cd13 "numbers_of"=true)(k13:W.keepIn K (.ref f13)=true)
 (a14:W.nsIn K mainGlobals "is_word"=some (some (.ref f14)))(l14:K.lookup f14=some ⟨oc14,od14, .func (W.fnOf "is_word" "is_word" (aT hV) (aR hV) (au hV) .none kV14 dc14 pm14 an14 cd14 ct14),sl14⟩)(c14:W.codeIn K cd14 "is_word"=true)(k14:W.keepIn K (.ref f14)=true)
 (a15:W.nsIn K mainGlobals "named_row"=some (some (.ref f15)))(l15:K.lookup f15=some ⟨oc15,od15, .func (W.fnOf "named_row" "named_row" (aT fk) (aR fk) (au fk) .none kV15 dc15 pm15 an15 cd15 ct15),sl15⟩)(c15:W.codeIn K cd15 "named_row"=true)(k15:W.keepIn K (.ref f15)=true)
 (l16:K.lookup f16=some ⟨oc16,od16, .func (W.fnOf "__init__" "TextError.__init__" (aT cG) (aR cG) (au cG) .none kV16 dc16 pm16 an16 cd16 ct16),sl16⟩)(c16:W.codeIn K cd16 "TextError.__init__"=true)(k16:W.keepIn K (.ref f16)=true)
 (a17:W.nsIn K mainGlobals "read_head"=some (some (.ref f17)))(l17:K.lookup f17=some ⟨oc17,od17, .func (W.fnOf "read_head" "read_head" (aT du) (aR du) (au du) .none kV17 dc17 pm17 an17 cd17 ct17),sl17⟩)(c17:W.codeIn K cd17 "read_head"=true)(k17:W.keepIn K (.ref f17)=true)
 (a18:W.nsIn K mainGlobals "plain_row"=some (some (.ref f18)))(l18:K.lookup f18=some ⟨oc18,od18, .func (W.fnOf "plain_row" "plain_row" (aT fj) (aR fj) (au fj) .none kV18 dc18 pm18 an18 cd18 ct18),sl18⟩)(c18:W.codeIn K cd18 "plain_row"=true)(k18:W.keepIn K (.ref f18)=true)
 (a19:W.nsIn K mainGlobals "span_of"=some (some (.ref f19)))(l19:K.lookup f19=some ⟨oc19,od19, .func (W.fnOf "span_of" "span_of" (aT fZ) (aR fZ) (au fZ) .none kV19 dc19 pm19 an19 cd19 ct19),sl19⟩)(c19:W.codeIn K cd19 "span_of"=true)(k19:W.keepIn K (.ref f19)=true)
 (a20:W.nsIn K mainGlobals "read_wheel"=some (some (.ref f20)))(l20:K.lookup f20=some ⟨oc20,od20, .func (W.fnOf "read_wheel" "read_wheel" (aT dF) (aR dF) (au dF) .none kV20 dc20 pm20 an20 cd20 ct20),sl20⟩)(c20:W.codeIn K cd20 "read_wheel"=true)(k20:W.keepIn K (.ref f20)=true)
 (a21:W.nsIn K mainGlobals "read_wheels"=some (some (.ref f21)))(l21:K.lookup f21=some ⟨oc21,od21, .func (W.fnOf "read_wheels" "read_wheels" (aT dc) (aR dc) (au dc) .none kV21 dc21 pm21 an21 cd21 ct21),sl21⟩)(c21:W.codeIn K cd21 "read_wheels"=true)(k21:W.keepIn K (.ref f21)=true)
 (l22:K.lookup f22=some ⟨oc22,od22, .func (W.fnOf "__init__" "Cart.__init__" (aT fg) (aR fg) (au fg) .none kV22 dc22 pm22 an22 cd22 ct22),sl22⟩)(c22:W.codeIn K cd22 "Cart.__init__"=true)(k22:W.keepIn K (.ref f22)=true)
 (a23:W.nsIn K mainGlobals "loads_from"=some (some (.ref f23)))(l23:K.lookup f23=some ⟨oc23,od23, .func (W.fnOf "loads_from" "loads_from" (aT dG) (aR dG) (au dG) .none kV23 dc23 pm23 an23 cd23 ct23),sl23⟩)(c23:W.codeIn K cd23 "loads_from"=true)(k23:W.keepIn K (.ref f23)=true)
 (a24:W.nsIn K mainGlobals "loads_of"=some (some (.ref f24)))(l24:K.lookup f24=some ⟨oc24,od24, .func (W.fnOf "loads_of" "loads_of" (aT e8) (aR e8) (au e8) .none kV24 dc24 pm24 an24 cd24 ct24),sl24⟩)(c24:W.codeIn K cd24 "loads_of"=true)(k24:W.keepIn K (.ref f24)=true)
 (a25:W.nsIn K mainGlobals "_law_number"=some (some (.ref f25)))(l25:K.lookup f25=some ⟨oc25,od25, .func (W.fnOf "_law_number" "_law_number" (aT eG) (aR eG) (au eG) .none kV25 dc25 pm25 an25 cd25 ct25),sl25⟩)(c25:W.codeIn K cd25 "_law_number"=true)(k25:W.keepIn K (.ref f25)=true)
 (a26:W.nsIn K mainGlobals "_law_refused"=some (some (.ref f26)))(l26:K.lookup f26=some ⟨oc26,od26, .func (W.fnOf "_law_refused" "_law_refused" (aT dN) (aR dN) (au dN) .none kV26 dc26 pm26 an26 cd26 ct26),sl26⟩)(c26:W.codeIn K cd26 "_law_refused"=true)(k26:W.keepIn K (.ref f26)=true)
 (a27:W.nsIn K mainGlobals "_law_asked"=some (some (.ref f27)))(l27:K.lookup f27=some ⟨oc27,od27, .func (W.fnOf "_law_asked" "_law_asked" (aT ft) (aR ft) (au ft) .none kV27 dc27 pm27 an27 cd27 ct27),sl27⟩)(c27:W.codeIn K cd27 "_law_asked"=true)(k27:W.keepIn K (.ref f27)=true)
 (a28:W.nsIn K mainGlobals "_law_added"=some (some (.ref f28)))(l28:K.lookup f28=some ⟨oc28,od28, .func (W.fnOf "_law_added" "_law_added" (aT dz) (aR dz) (au dz) .none kV28 dc28 pm28 an28 cd28 ct28),sl28⟩)(c28:W.codeIn K cd28 "_law_added"=true)(k28:W.keepIn K (.ref f28)=true)
 (a29:W.nsIn K mainGlobals "_law_bad_number"=some (some (.ref f29)))(l29:K.lookup f29=some ⟨oc29,od29, .func (W.fnOf "_law_bad_number" "_law_bad_number" (aT cI) (aR cI) (au cI) .none kV29 dc29 pm29 an29 cd29 ct29),sl29⟩)(c29:W.codeIn K cd29 "_law_bad_number"=true)(k29:W.keepIn K (.ref f29)=true)
 (a30:W.nsIn K mainGlobals "_law_form"=some (some (.ref f30)))(l30:K.lookup f30=some ⟨oc30,od30, .func (W.fnOf "_law_form" "_law_form" (aT ge) (aR ge) (au ge) .none kV30 dc30 pm30 an30 cd30 ct30),sl30⟩)(c30:W.codeIn K cd30 "_law_form"=true)(k30:W.keepIn K (.ref f30)=true)
 (a31:W.nsIn K mainGlobals "law"=some (some (.ref f31)))(l31:K.lookup f31=some ⟨oc31,od31, .func (W.fnOf "law" "law" (aT la) (aR la) (au la) .none kV31 dc31 pm31 an31 cd31 ct31),sl31⟩)(c31:W.codeIn K cd31 "law"=true)(k31:W.keepIn K (.ref f31)=true)
 {tk0:Tok}(q0:W.nsIn K mainGlobals "FIGURES"=some (some (.str (Str.ofString "0123456789") tk0)))
 {tk1:Tok}(q1:W.nsIn K mainGlobals "MOST_FIGURES"=some (some (.int 60 tk1)))
 {tk2:Tok}(q2:W.nsIn K mainGlobals "LETTERS"=some (some (.str (Str.ofString "abcdefghijklmnopqrstuvwxyz") tk2)))
 {tk3:Tok}(q3:W.nsIn K mainGlobals "MOST_LETTERS"=some (some (.int 12 tk3)))
 {qa4:Addr}{qd4:Option Addr}{qn4:Nat}{qs4:Array (Option Value)}{tk4_0 tk4_1:Tok}(q4:W.nsIn K mainGlobals "SPEED"=some (some (.ref qa4)))(qt4:K.lookup qa4=some ⟨.type "tuple",qd4, .seq #[.int 1 tk4_0, .int 12 tk4_1] qn4,qs4⟩)
 {tk5:Tok}(q5:W.nsIn K mainGlobals "MOST_LOADS"=some (some (.int 6 tk5)))
 {tk6:Tok}(q6:W.nsIn K mainGlobals "MOST_SPAN"=some (some (.int 200 tk6)))
 {qa7:Addr}{qd7:Option Addr}{qn7:Nat}{qs7:Array (Option Value)}{tk7_0 tk7_1:Tok}(q7:W.nsIn K mainGlobals "GAP"=some (some (.ref qa7)))(qt7:K.lookup qa7=some ⟨.type "tuple",qd7, .seq #[.int 1 tk7_0, .int 100 tk7_1] qn7,qs7⟩)
 {qa8:Addr}{qd8:Option Addr}{qn8:Nat}{qs8:Array (Option Value)}{tk8_0 tk8_1:Tok}(q8:W.nsIn K mainGlobals "WEIGHT"=some (some (.ref qa8)))(qt8:K.lookup qa8=some ⟨.type "tuple",qd8, .seq #[.int 0 tk8_0, .int 1000000 tk8_1] qn8,qs8⟩)
 {tk9:Tok}(q9:W.nsIn K mainGlobals "MOST_WHEELS"=some (some (.int 8 tk9)))
 (zz0:W.nsIn K mainGlobals "range"=some none)
 (zz1:W.nsIn K mainGlobals "len"=some none)
 (zz2:W.nsIn K mainGlobals "min"=some none)
 (zz3:W.nsIn K mainGlobals "str"=some none)
 (zz4:W.nsIn K mainGlobals "list"=some none)
 (zz5:W.nsIn K mainGlobals "all"=some none)
 (zz6:W.nsIn K mainGlobals "int"=some none)
 (zz7:W.nsIn K mainGlobals "zip"=some none)
 (zz8:W.nsIn K mainGlobals "sum"=some none)
 (zz9:W.nsIn K mainGlobals "tuple"=some none)
 (zz10:W.nsIn K mainGlobals "isinstance"=some none)
 (zz11:W.nsIn K mainGlobals "bool"=some none)
 (zz12:W.nsIn K mainGlobals "ValueError"=some none)
 :
 ∃fd:FuncData,(∀(s:Shared) (v:Value),BindsTo s fd ⟨[v],[]⟩ [("_law_script",v)])∧∀base:Heap,K.In base→base.Ns mainGlobals mg→FnOk l.prog w K mg base CX0 12 fa fd ["_law_script"] (qR K):=by
 have e:=hfa.symm.trans (W.mg_of X G a31)
 cases e
 have F0:=bM (st:=h9) l0 c0 k0
 have F1:=bM (st:=eh) l1 c1 k1
 have F2:=bM (st:=gc) l2 c2 k2
 have F3:=bM (st:=eF) l3 c3 k3
 have F4:=bM (st:=fq) l4 c4 k4
 have F5:=bM (st:=cw) l5 c5 k5
 have F6:=bM (st:=dO) l6 c6 k6
 have F7:=bM (st:=hZ) l7 c7 k7
 have F8:=bM (st:=dL) l8 c8 k8
 have F9:=bM (st:=gb) l9 c9 k9
 have F10:=bM (st:=d9) l10 c10 k10
 have F11:=zg (st:=bS) l11 c11 k11
 have F12:=bM (st:=cT) l12 c12 k12
 have F13:=bM (st:=dE) l13 c13 k13
 have F14:=bM (st:=hV) l14 c14 k14
 have F15:=bM (st:=fk) l15 c15 k15
 have F16:=bM (st:=cG) l16 c16 k16
 have F17:=bM (st:=du) l17 c17 k17
 have F18:=bM (st:=fj) l18 c18 k18
 have F19:=bM (st:=fZ) l19 c19 k19
 have F20:=bM (st:=dF) l20 c20 k20
 have F21:=bM (st:=dc) l21 c21 k21
 have F22:=bM (st:=fg) l22 c22 k22
 have F23:=bM (st:=dG) l23 c23 k23
 have F24:=bM (st:=e8) l24 c24 k24
 have F25:=bM (st:=eG) l25 c25 k25
 have F26:=bM (st:=dN) l26 c26 k26
 have F27:=bM (st:=ft) l27 c27 k27
 have F28:=bM (st:=dz) l28 c28 k28
 have F29:=bM (st:=cI) l29 c29 k29
 have F30:=bM (st:=ge) l30 c30 k30
 have F31:=bM (st:=la) l31 c31 k31
 have c_FIGURES:∃u,mg "FIGURES"=some u∧RelV (V.str (Str.ofString "0123456789")) u:=⟨_,W.mg_of X G q0,⟨_,rfl⟩⟩
 have c_MOST_FIGURES:∃u,mg "MOST_FIGURES"=some u∧RelV (V.int 60) u:=⟨_,W.mg_of X G q1,⟨_,rfl⟩⟩
 have c_LETTERS:∃u,mg "LETTERS"=some u∧RelV (V.str (Str.ofString "abcdefghijklmnopqrstuvwxyz")) u:=⟨_,W.mg_of X G q2,⟨_,rfl⟩⟩
 have c_MOST_LETTERS:∃u,mg "MOST_LETTERS"=some u∧RelV (V.int 12) u:=⟨_,W.mg_of X G q3,⟨_,rfl⟩⟩
 have n_SPEED:mg "SPEED"=some (.ref (clA K "SPEED")):=by rw[cN q4];exact W.mg_of X G q4
 have k_SPEED:KT K (clA K "SPEED") [.int 1, .int 12]:=by rw[cN q4];exact⟨_,_,_,qt4,rfl,rfl,(by show 2≤sizeLine;decide), .cons ⟨_,rfl⟩ (.cons ⟨_,rfl⟩ (.nil))⟩
 have c_MOST_LOADS:∃u,mg "MOST_LOADS"=some u∧RelV (V.int 6) u:=⟨_,W.mg_of X G q5,⟨_,rfl⟩⟩
 have c_MOST_SPAN:∃u,mg "MOST_SPAN"=some u∧RelV (V.int 200) u:=⟨_,W.mg_of X G q6,⟨_,rfl⟩⟩
 have n_GAP:mg "GAP"=some (.ref (clA K "GAP")):=by rw[cN q7];exact W.mg_of X G q7
 have k_GAP:KT K (clA K "GAP") [.int 1, .int 100]:=by rw[cN q7];exact⟨_,_,_,qt7,rfl,rfl,(by show 2≤sizeLine;decide), .cons ⟨_,rfl⟩ (.cons ⟨_,rfl⟩ (.nil))⟩
 have n_WEIGHT:mg "WEIGHT"=some (.ref (clA K "WEIGHT")):=by rw[cN q8];exact W.mg_of X G q8
 have k_WEIGHT:KT K (clA K "WEIGHT") [.int 0, .int 1000000]:=by rw[cN q8];exact⟨_,_,_,qt8,rfl,rfl,(by show 2≤sizeLine;decide), .cons ⟨_,rfl⟩ (.cons ⟨_,rfl⟩ (.nil))⟩
 have c_MOST_WHEELS:∃u,mg "MOST_WHEELS"=some u∧RelV (V.int 8) u:=⟨_,W.mg_of X G q9,⟨_,rfl⟩⟩
 have z_range:=W.mg_none_of X G zz0
 have z_len:=W.mg_none_of X G zz1
 have z_min:=W.mg_none_of X G zz2
 have z_str:=W.mg_none_of X G zz3
 have z_list:=W.mg_none_of X G zz4
 have z_all:=W.mg_none_of X G zz5
 have z_int:=W.mg_none_of X G zz6
 have z_zip:=W.mg_none_of X G zz7
 have z_sum:=W.mg_none_of X G zz8
 have z_tuple:=W.mg_none_of X G zz9
 have z_isinstance:=W.mg_none_of X G zz10
 have z_bool:=W.mg_none_of X G zz11
 have z_ValueError:=W.mg_none_of X G zz12
 have o0:XObj K C0 xc0:=⟨_,_,xl0,xo0⟩
 have n_WayError:mg "WayError"=some (.ref (clA K "WayError")):=by rw[cN x0];exact W.mg_of X G x0
 have o1:XObj K C1 xc1:=⟨_,_,xl1,xo1⟩
 have n_TextError:mg "TextError"=some (.ref (clA K "TextError")):=by rw[cN x1];exact W.mg_of X G x1
 have o2:XObj K C2 xc2:=⟨_,_,xl2,xo2⟩
 have n_BadRow:mg "BadRow"=some (.ref (clA K "BadRow")):=by rw[cN x2];exact W.mg_of X G x2
 have o3:XObj K C3 xc3:=⟨_,_,xl3,xo3⟩
 have n_Twice:mg "Twice"=some (.ref (clA K "Twice")):=by rw[cN x3];exact W.mg_of X G x3
 have o4:XObj K C4 xc4:=⟨_,_,xl4,xo4⟩
 have n_NoBridge:mg "NoBridge"=some (.ref (clA K "NoBridge")):=by rw[cN x4];exact W.mg_of X G x4
 have o5:XObj K C5 xc5:=⟨_,_,xl5,xo5⟩
 have n_NoLoad:mg "NoLoad"=some (.ref (clA K "NoLoad")):=by rw[cN x5];exact W.mg_of X G x5
 have o6:XObj K C6 xc6:=⟨_,_,xl6,xo6⟩
 have n_TooNear:mg "TooNear"=some (.ref (clA K "TooNear")):=by rw[cN x6];exact W.mg_of X G x6
 have o7:XObj K C7 xc7:=⟨_,_,xl7,xo7⟩
 have n_TooLong:mg "TooLong"=some (.ref (clA K "TooLong")):=by rw[cN x7];exact W.mg_of X G x7
 have o8:KObj K C8 xc8:=zt xl8 xo8
 have n_Cart:mg "Cart"=some (.ref (clA K "Cart")):=by rw[cN x8];exact W.mg_of X G x8
 have pts:Pts K kNames [C0,C1,C2,C3,C4,C5,C6,C7,C8]:= .cons x0 o0.kobj (.cons x1 o1.kobj (.cons x2 o2.kobj (.cons x3 o3.kobj (.cons x4 o4.kobj (.cons x5 o5.kobj (.cons x6 o6.kobj (.cons x7 o7.kobj (.cons x8 o8 (.nil)))))))))
 have d_WayError:XKd K kNames (clA K "WayError") ["WayError"] []:=jD x0 o0 pts xk0 xa0 xb0 xe0 xf0 xcg xct jg
 have w_WayError:=wM x0 wh0 wr0 wf0
 have d_TextError:XKd K kNames (clA K "TextError") ["TextError","WayError"] ["row"]:=jD x1 o1 pts xk1 xa1 xb1 xe1 xf1 xcg xct (gw xna1_0 jg)
 have d_BadRow:XKd K kNames (clA K "BadRow") ["BadRow","TextError","WayError"] ["row"]:=jD x2 o2 pts xk2 xa2 xb2 xe2 xf2 xcg xct (gw xna2_0 jg)
 have d_Twice:XKd K kNames (clA K "Twice") ["Twice","TextError","WayError"] ["row"]:=jD x3 o3 pts xk3 xa3 xb3 xe3 xf3 xcg xct (gw xna3_0 jg)
 have d_NoBridge:XKd K kNames (clA K "NoBridge") ["NoBridge","TextError","WayError"] ["row"]:=jD x4 o4 pts xk4 xa4 xb4 xe4 xf4 xcg xct (gw xna4_0 jg)
 have d_NoLoad:XKd K kNames (clA K "NoLoad") ["NoLoad","TextError","WayError"] ["row"]:=jD x5 o5 pts xk5 xa5 xb5 xe5 xf5 xcg xct (gw xna5_0 jg)
 have d_TooNear:XKd K kNames (clA K "TooNear") ["TooNear","TextError","WayError"] ["row"]:=jD x6 o6 pts xk6 xa6 xb6 xe6 xf6 xcg xct (gw xna6_0 jg)
 have d_TooLong:XKd K kNames (clA K "TooLong") ["TooLong","TextError","WayError"] ["row"]:=jD x7 o7 pts xk7 xa7 xb7 xe7 xf7 xcg xct (gw xna7_0 jg)
 have d_Cart:PKd K kNames (clA K "Cart") ["Cart"] ["name","speed","wheels"]:=BS x8 xl8 xo8 pts xk8 xa8 xb8 xg8 xe8 xf8 xcg xct (gw xna8_0 (gw xna8_1 (gw xna8_2 jg)))
 refine⟨W.fnOf "law" "law" (aT la) (aR la) (au la) .none kV31 dc31 pm31 an31 cd31 ct31,fun s v=> .of_eq rfl,fun base _ _=> ?_⟩
 have b0:=F0.binds (ps:=["_law_cell_here","_law_one","_law_prime"]) fun _ _ _ _ _ _ us hl=>by obtain⟨_,_,_,rfl⟩:=us3 hl;rfl
 have g_law_mix:Got l.prog w K mg base 1 "_law_mix" ["_law_cell_here","_law_one","_law_prime"] (gf K):=⟨⟨_,_,tO F0,b0,k0,W.mg_of X G a0⟩⟩
 have b1:=F1.binds (ps:=["_law_cell_here"]) fun _ _ _ _ _ _ us hl=>by obtain⟨_,rfl⟩:=us1 hl;rfl
 have g_law_names:Got l.prog w K mg base 2 "_law_names" ["_law_cell_here"] (jn K):=⟨⟨_,_,qS F1 g_law_mix z_range,b1,k1,W.mg_of X G a1⟩⟩
 have b2:=F2.binds (ps:=["_law_script","_law_k"]) fun _ _ _ _ _ _ us hl=>by obtain⟨_,_,rfl⟩:=us2 hl;rfl
 have g_law_cell:Got l.prog w K mg base 1 "_law_cell" ["_law_script","_law_k"] (iH K):=⟨⟨_,_,si F2 z_len,b2,k2,W.mg_of X G a2⟩⟩
 have b3:=F3.binds (ps:=["_law_cell_here","_law_many"]) fun _ _ _ _ _ _ us hl=>by obtain⟨_,_,rfl⟩:=us2 hl;rfl
 have g_law_wheels:Got l.prog w K mg base 2 "_law_wheels" ["_law_cell_here","_law_many"] (iR K):=⟨⟨_,_,oR F3 g_law_mix z_range z_min,b3,k3,W.mg_of X G a3⟩⟩
 have b4:=F4.binds (ps:=["_law_script","_law_most"]) fun _ _ _ _ _ _ us hl=>by obtain⟨_,_,rfl⟩:=us2 hl;rfl
 have g_law_loads:Got l.prog w K mg base 3 "_law_loads" ["_law_script","_law_most"] (jo K):=⟨⟨_,_,qT F4 g_law_names g_law_cell g_law_mix g_law_wheels z_range,b4,k4,W.mg_of X G a4⟩⟩
 have b5:=F5.binds (ps:=["_law_loads_here"]) fun _ _ _ _ _ _ us hl=>by obtain⟨_,rfl⟩:=us1 hl;rfl
 have g_law_load_rows:Got l.prog w K mg base 1 "_law_load_rows" ["_law_loads_here"] (eK K):=⟨⟨_,_,lW F5 z_str,b5,k5,W.mg_of X G a5⟩⟩
 have b6:=F6.binds (ps:=["_law_loads_here","_law_names_here"]) fun _ _ _ _ _ _ us hl=>by obtain⟨_,_,rfl⟩:=us2 hl;rfl
 have g_law_seventh:Got l.prog w K mg base 2 "_law_seventh" ["_law_loads_here","_law_names_here"] (ip K):=⟨⟨_,_,oA F6 g_law_load_rows z_list z_len,b6,k6,W.mg_of X G a6⟩⟩
 have b7:=F7.binds (ps:=["text"]) fun _ _ _ _ _ _ us hl=>by obtain⟨_,rfl⟩:=us1 hl;rfl
 have g_rows_of:Got l.prog w K mg base 1 "rows_of" ["text"] (jp K):=⟨⟨_,_,tP F7,b7,k7,W.mg_of X G a7⟩⟩
 have b8:=F8.binds (ps:=["words","kinds"]) fun _ _ _ _ _ _ us hl=>by obtain⟨_,_,rfl⟩:=us2 hl;rfl
 have g_begins_with:Got l.prog w K mg base 1 "begins_with" ["words","kinds"] (cr K):=⟨⟨_,_,oB F8 z_len,b8,k8,W.mg_of X G a8⟩⟩
 have b9:=F9.binds (ps:=["rows","place"]) fun _ _ _ _ _ _ us hl=>by obtain⟨_,_,rfl⟩:=us2 hl;rfl
 have g_words_at:Got l.prog w K mg base 1 "words_at" ["rows","place"] (fA K):=⟨⟨_,_,sj F9 z_len,b9,k9,W.mg_of X G a9⟩⟩
 have b10:=F10.binds (ps:=["text","signs","most"]) fun _ _ _ _ _ _ us hl=>by obtain⟨_,_,_,rfl⟩:=us3 hl;rfl
 have g_is_row_of:Got l.prog w K mg base 1 "is_row_of" ["text","signs","most"] (gZ K):=⟨⟨_,_,qU F10 z_all z_len,b10,k10,W.mg_of X G a10⟩⟩
 have b11:Binds K (W.fnOf "number_of" "number_of" (aT bS) (aR bS) (au bS) (.ref dt11) kV11 dc11 pm11 an11 cd11 ct11) ["text","most"] []:=fun s us KX hl=>by
  have hl':us.length=2:=by simpa using hl
  match us,hl' with|[_,_],_=>exact BindsTo.of_defaults rfl (KX _ _ dl11) rfl rfl rfl
 have bd11:Binds K (W.fnOf "number_of" "number_of" (aT bS) (aR bS) (au bS) (.ref dt11) kV11 dc11 pm11 an11 cd11 ct11) ["text","most"] [.none]:=fun s us KX hl=>by
  have hl':us.length=1:=by simpa using hl
  match us,hl' with|[_],_=>exact BindsTo.of_defaults rfl (KX _ _ dl11) rfl rfl rfl
 have g_number_of:Got l.prog w K mg base 2 "number_of" ["text","most"] (fS K):=⟨⟨_,_,lu F11 g_is_row_of z_int c_FIGURES c_MOST_FIGURES,b11,k11,W.mg_of X G a11⟩⟩
 have gd_number_of:GotD l.prog w K mg base 2 "number_of" ["text","most"] [V.non] (fS K):=⟨⟨_,_,_,lu F11 g_is_row_of z_int c_FIGURES c_MOST_FIGURES,bd11, .cons rfl .nil,k11,W.mg_of X G a11⟩⟩
 have b12:=F12.binds (ps:=["text","bound"]) fun _ _ _ _ _ _ us hl=>by obtain⟨_,_,rfl⟩:=us2 hl;rfl
 have g_number_within:Got l.prog w K mg base 3 "number_within" ["text","bound"] (gj K):=⟨⟨_,_,lX F12 g_number_of gd_number_of,b12,k12,W.mg_of X G a12⟩⟩
 have b13:=F13.binds (ps:=["texts","bounds"]) fun _ _ _ _ _ _ us hl=>by obtain⟨_,_,rfl⟩:=us2 hl;rfl
 have g_numbers_of:Got l.prog w K mg base 4 "numbers_of" ["texts","bounds"] (gz K):=⟨⟨_,_,oU F13 g_number_within z_len z_zip,b13,k13,W.mg_of X G a13⟩⟩
 have b14:=F14.binds (ps:=["text"]) fun _ _ _ _ _ _ us hl=>by obtain⟨_,rfl⟩:=us1 hl;rfl
 have g_is_word:Got l.prog w K mg base 2 "is_word" ["text"] (kB K):=⟨⟨_,_,tQ F14 g_is_row_of c_LETTERS c_MOST_LETTERS,b14,k14,W.mg_of X G a14⟩⟩
 have b15:=F15.binds (ps:=["words","kind","bounds"]) fun _ _ _ _ _ _ us hl=>by obtain⟨_,_,_,rfl⟩:=us3 hl;rfl
 have g_named_row:Got l.prog w K mg base 5 "named_row" ["words","kind","bounds"] (g0 K):=⟨⟨_,_,qV F15 g_numbers_of g_begins_with g_is_word z_len,b15,k15,W.mg_of X G a15⟩⟩
 have b16:=F16.binds (ps:=["self","row"]) fun _ _ _ _ _ _ us hl=>by obtain⟨_,_,rfl⟩:=us2 hl;rfl
 have m_BadRow:GotX l.prog w K mg base 1 "BadRow" ["self","row"] (bi K):=⟨⟨_,_,sM x2 o2 xi2 xn2 xp2,fW F16 w_WayError n_WayError,b16,n_BadRow⟩⟩
 have m_Twice:GotX l.prog w K mg base 1 "Twice" ["self","row"] (bi K):=⟨⟨_,_,sM x3 o3 xi3 xn3 xp3,fW F16 w_WayError n_WayError,b16,n_Twice⟩⟩
 have m_TooLong:GotX l.prog w K mg base 1 "TooLong" ["self","row"] (bi K):=⟨⟨_,_,sM x7 o7 xi7 xn7 xp7,fW F16 w_WayError n_WayError,b16,n_TooLong⟩⟩
 have b17:=F17.binds (ps:=["words","number","loads"]) fun _ _ _ _ _ _ us hl=>by obtain⟨_,_,_,rfl⟩:=us3 hl;rfl
 have g_read_head:Got l.prog w K mg base 6 "read_head" ["words","number","loads"] (jq K):=⟨⟨_,_,lx F17 g_named_row z_len n_SPEED k_SPEED c_MOST_LOADS,b17,k17,W.mg_of X G a17⟩⟩
 have gx_read_head:GotB l.prog w K mg base 6 "read_head" ["words","number","loads"] (lb K):=⟨⟨_,_,FnOk.or (FnOk.cx (lx F17 g_named_row z_len n_SPEED k_SPEED c_MOST_LOADS)) (oV F17 g_named_row m_BadRow d_BadRow m_Twice d_Twice z_len n_SPEED k_SPEED c_MOST_LOADS),b17,k17,W.mg_of X G a17⟩⟩
 have b18:=F18.binds (ps:=["words","kind","bounds"]) fun _ _ _ _ _ _ us hl=>by obtain⟨_,_,_,rfl⟩:=us3 hl;rfl
 have g_plain_row:Got l.prog w K mg base 5 "plain_row" ["words","kind","bounds"] (g6 K):=⟨⟨_,_,qW F18 g_numbers_of g_begins_with,b18,k18,W.mg_of X G a18⟩⟩
 have b19:=F19.binds (ps:=["wheels"]) fun _ _ _ _ _ _ us hl=>by obtain⟨_,rfl⟩:=us1 hl;rfl
 have g_span_of:Got l.prog w K mg base 1 "span_of" ["wheels"] (js K):=⟨⟨_,_,tR F19 z_sum,b19,k19,W.mg_of X G a19⟩⟩
 have b20:=F20.binds (ps:=["words","number","wheels"]) fun _ _ _ _ _ _ us hl=>by obtain⟨_,_,_,rfl⟩:=us3 hl;rfl
 have g_read_wheel:Got l.prog w K mg base 6 "read_wheel" ["words","number","wheels"] (iT K):=⟨⟨_,_,ki F20 g_plain_row g_span_of z_tuple z_len c_MOST_SPAN n_GAP k_GAP n_WEIGHT k_WEIGHT c_MOST_WHEELS,b20,k20,W.mg_of X G a20⟩⟩
 have gx_read_wheel:GotB l.prog w K mg base 6 "read_wheel" ["words","number","wheels"] (kg K):=⟨⟨_,_,FnOk.or (FnOk.cx (ki F20 g_plain_row g_span_of z_tuple z_len c_MOST_SPAN n_GAP k_GAP n_WEIGHT k_WEIGHT c_MOST_WHEELS)) (oE F20 g_plain_row g_span_of m_BadRow d_BadRow m_TooLong d_TooLong z_tuple z_len c_MOST_SPAN n_GAP k_GAP n_WEIGHT k_WEIGHT c_MOST_WHEELS),b20,k20,W.mg_of X G a20⟩⟩
 have b21:=F21.binds (ps:=["rows","place","first"]) fun _ _ _ _ _ _ us hl=>by obtain⟨_,_,_,rfl⟩:=us3 hl;rfl
 have g_read_wheels:Got l.prog w K mg base 7 "read_wheels" ["rows","place","first"] (iq K):=⟨⟨_,_,jV F21 g_begins_with g_words_at g_read_wheel,b21,k21,W.mg_of X G a21⟩⟩
 have gx_read_wheels:GotB l.prog w K mg base 7 "read_wheels" ["rows","place","first"] (jN K):=⟨⟨_,_,FnOk.or (FnOk.cx (jV F21 g_begins_with g_words_at g_read_wheel)) (mv F21 g_begins_with g_words_at gx_read_wheel),b21,k21,W.mg_of X G a21⟩⟩
 have b22:=F22.binds (ps:=["self","name","speed","wheels"]) fun _ _ _ _ _ _ us hl=>by obtain⟨_,_,_,_,rfl⟩:=us4 hl;rfl
 have m_Cart:GotP l.prog w K mg base 1 "Cart" ["self","name","speed","wheels"] (g9 K):=⟨⟨_,_,DC x8 xm8 xi8 xn8 xp8,qX F22 z_list,b22,n_Cart⟩⟩
 have b23:=F23.binds (ps:=["rows","first"]) fun _ _ _ _ _ _ us hl=>by obtain⟨_,_,rfl⟩:=us2 hl;rfl
 have g_loads_from:Got l.prog w K mg base 8 "loads_from" ["rows","first"] (iU K):=⟨⟨_,_,kj F23 g_begins_with g_words_at g_read_head g_read_wheels m_Cart d_Cart z_len,b23,k23,W.mg_of X G a23⟩⟩
 have gx_loads_from:GotB l.prog w K mg base 8 "loads_from" ["rows","first"] (iV K):=⟨⟨_,_,FnOk.or (FnOk.cx (kj F23 g_begins_with g_words_at g_read_head g_read_wheels m_Cart d_Cart z_len)) (oF F23 g_begins_with g_words_at gx_read_head gx_read_wheels m_Cart d_Cart z_len),b23,k23,W.mg_of X G a23⟩⟩
 have b24:=F24.binds (ps:=["text"]) fun _ _ _ _ _ _ us hl=>by obtain⟨_,rfl⟩:=us1 hl;rfl
 have g_loads_of:Got l.prog w K mg base 9 "loads_of" ["text"] (mh K):=⟨⟨_,_,mm F24 g_rows_of g_loads_from z_len,b24,k24,W.mg_of X G a24⟩⟩
 have gx_loads_of:GotB l.prog w K mg base 9 "loads_of" ["text"] (mj K):=⟨⟨_,_,FnOk.or (FnOk.cx (mm F24 g_rows_of g_loads_from z_len)) (qY F24 g_rows_of gx_loads_from m_BadRow d_BadRow z_len),b24,k24,W.mg_of X G a24⟩⟩
 have b25:=F25.binds (ps:=["_law_found"]) fun _ _ _ _ _ _ us hl=>by obtain⟨_,rfl⟩:=us1 hl;rfl
 have g_law_number:Got l.prog w K mg base 1 "_law_number" ["_law_found"] (gA K):=⟨⟨_,_,oW F25 z_isinstance z_int z_bool,b25,k25,W.mg_of X G a25⟩⟩
 have b26:=F26.binds (ps:=["_law_rows","_law_first"]) fun _ _ _ _ _ _ us hl=>by obtain⟨_,_,rfl⟩:=us2 hl;rfl
 have g_law_refused:Got l.prog w K mg base 10 "_law_refused" ["_law_rows","_law_first"] (iu K):=⟨⟨_,_,oz F26 gx_loads_of gx_loads_from g_law_number d_WayError d_BadRow d_Twice d_TooLong d_TextError d_TooNear d_NoBridge d_NoLoad n_WayError n_BadRow n_Twice n_TooLong n_TextError n_TooNear n_NoBridge n_NoLoad z_isinstance z_ValueError,b26,k26,W.mg_of X G a26⟩⟩
 have b27:=F27.binds (ps:=["_law_rows","_law_due","_law_at","_law_first"]) fun _ _ _ _ _ _ us hl=>by obtain⟨_,_,_,_,rfl⟩:=us4 hl;rfl
 have g_law_asked:Got l.prog w K mg base 11 "_law_asked" ["_law_rows","_law_due","_law_at","_law_first"] (jv K):=⟨⟨_,_,qZ F27 g_law_refused z_list,b27,k27,W.mg_of X G a27⟩⟩
 have b28:=F28.binds (ps:=["_law_rows","_law_loads_here","_law_names_here","_law_drawn"]) fun _ _ _ _ _ _ us hl=>by obtain⟨_,_,_,_,rfl⟩:=us4 hl;rfl
 have g_law_added:Got l.prog w K mg base 1 "_law_added" ["_law_rows","_law_loads_here","_law_names_here","_law_drawn"] (jw K):=⟨⟨_,_,rc F28 z_sum z_len z_str,b28,k28,W.mg_of X G a28⟩⟩
 have b29:=F29.binds (ps:=["_law_drawn","_law_least","_law_most"]) fun _ _ _ _ _ _ us hl=>by obtain⟨_,_,_,rfl⟩:=us3 hl;rfl
 have g_law_bad_number:Got l.prog w K mg base 1 "_law_bad_number" ["_law_drawn","_law_least","_law_most"] (fU K):=⟨⟨_,_,ly F29 z_str z_len,b29,k29,W.mg_of X G a29⟩⟩
 have b30:=F30.binds (ps:=["_law_row","_law_drawn"]) fun _ _ _ _ _ _ us hl=>by obtain⟨_,_,rfl⟩:=us2 hl;rfl
 have g_law_form:Got l.prog w K mg base 2 "_law_form" ["_law_row","_law_drawn"] (jQ K):=⟨⟨_,_,sk F30 g_law_bad_number z_int z_len,b30,k30,W.mg_of X G a30⟩⟩
 exact CT (P:=l.prog) (w:=w) (base:=base) F31 g_law_loads g_law_load_rows g_law_seventh g_law_asked g_law_mix g_law_cell g_law_added g_law_form z_len z_int
theorem walk{l:W.OpenLaw}{q:Program}{loose:List Str}{XP:(Str→Option Value)→Heap→Prop}{YP:World→Heap→Prop}{d:DefRec}{K:Params→W.Frag}(hn:l.most=some 63)(hdf:d.params.defaults=[])
 (hY:∀(w:World) (h:Heap),YP w h→(K w.params).In h)
 (F:∀(w:World) (mg:Str→Option Value) (fa:Addr) (h:Heap),(K w.params).In h→h.Ns mainGlobals mg→mg d.name=some (.ref fa)→
  ∃fd:FuncData,(∀(s:Shared) (u:Value),BindsTo s fd ⟨[u],[]⟩ [("_law_script",u)])∧∀base:Heap,(K w.params).In base→base.Ns mainGlobals mg→FnOk l.prog w (K w.params) mg base CX0 12 fa fd ["_law_script"] (qR (K w.params))):
 W.WalkO q loose XP YP l.row.toRowW d [] (fun f vs=>PySem.call f vs):=
 L2.walk_of (n:=63) (k:=12) (x:="_law_script") (CX:=fun _=>CX0) (sp:=fun w=>qR (K w.params)) hn (by decide) hdf ⟨rfl,by decide,by decide⟩ hY F (fun _ _ a ns hl _ hS=>⟨a,ns,rfl,hS,hl,fun _=>rfl⟩) fun _ _ _ _ _ z=>z
end Kl
namespace PySem.W.Fast
theorem tw2612283184270518272:True:=⟨⟩
theorem tw14017016185194003731:True:=⟨⟩
theorem tw6984493160341269045:True:=⟨⟩
theorem tw1916153355639170667:True:=⟨⟩
theorem tw16500970596087972538:True:=⟨⟩
theorem tw7023878709863872514:True:=⟨⟩
theorem tw15288175067320980647:True:=⟨⟩
theorem tw10763674236859951561:True:=⟨⟩
theorem tw12031511745300036172:True:=⟨⟩
theorem tw6266685635483226561:True:=⟨⟩
theorem tw2283868722698872399:True:=⟨⟩
theorem tw13803662571136643472:True:=⟨⟩
theorem tw4292110235721408498:True:=⟨⟩
theorem tw4870942330303690098:True:=⟨⟩
theorem tw8687588662494426666:True:=⟨⟩
theorem tw10152468724366582884:True:=⟨⟩
theorem tw15971304184340700183:True:=⟨⟩
theorem tw11768942686238589496:True:=⟨⟩
theorem tw388837071507439214:True:=⟨⟩
theorem tw18294037866358625272:True:=⟨⟩
theorem tw17826531564793626799:True:=⟨⟩
theorem tw14171759544435390913:True:=⟨⟩
theorem tw11371055901804519129:True:=⟨⟩
theorem tw2179506565544490659:True:=⟨⟩
theorem tw15383699095397995266:True:=⟨⟩
theorem tw18182532685671323834:True:=⟨⟩
theorem tw2509898398956312314:True:=⟨⟩
theorem tw2227820551695734992:True:=⟨⟩
theorem tw5238868486344294797:True:=⟨⟩
theorem tw1183904644010775814:True:=⟨⟩
theorem tw1628268844167972650:True:=⟨⟩
theorem tw10667027529642116286:True:=⟨⟩
end PySem.W.Fast
open PySem PySem.W PyProof.Rows
set_option maxRecDepth 100000 in
set_option maxHeartbeats 0 in
theorem PySem.Challenge.cw_ballastway_k18_load_rows_refused_holds : PySem.Challenge.rw_ballastway_k18_load_rows_refused.Holds := by
 w_on; o_law; k_head; (case hw => w_witness2)
 k_fill
 refine Kl.walk (l := PySem.Challenge.rw_ballastway_k18_load_rows_refused) rfl rfl (fun w h Y => PySem.W.kIn_of Y) ?F
 case F =>
  intro w mg fa h KX G hmg
  refine' Kl.all_mk KX G hmg ?x0 ?xl0 ?x1 ?xl1 ?x2 ?xl2 ?xi2 ?x3 ?xl3 ?xi3 ?x4 ?xl4 ?x5 ?xl5 ?x6 ?xl6 ?x7 ?xl7 ?xi7 ?x8 ?xl8 ?xi8 ?xo0 ?xk0 ?xa0 ?xb0 ?xe0 ?xf0 ?wh0 ?wr0 ?wf0 ?xo1 ?xk1 ?xa1 ?xb1 ?xe1 ?xf1 ?xna1_0 ?xo2 ?xk2 ?xa2 ?xb2 ?xe2 ?xf2 ?xn2 ?xp2 ?xna2_0 ?xo3 ?xk3 ?xa3 ?xb3 ?xe3 ?xf3 ?xn3 ?xp3 ?xna3_0 ?xo4 ?xk4 ?xa4 ?xb4 ?xe4 ?xf4 ?xna4_0 ?xo5 ?xk5 ?xa5 ?xb5 ?xe5 ?xf5 ?xna5_0 ?xo6 ?xk6 ?xa6 ?xb6 ?xe6 ?xf6 ?xna6_0 ?xo7 ?xk7 ?xa7 ?xb7 ?xe7 ?xf7 ?xn7 ?xp7 ?xna7_0 ?xo8 ?xk8 ?xa8 ?xb8 ?xg8 ?xe8 ?xf8 ?xm8 ?xn8 ?xp8 ?xna8_0 ?xna8_1 ?xna8_2 ?xcg ?xct ?a0 ?l0 ?c0 ?k0 ?a1 ?l1 ?c1 ?k1 ?a2 ?l2 ?c2 ?k2 ?a3 ?l3 ?c3 ?k3 ?a4 ?l4 ?c4 ?k4 ?a5 ?l5 ?c5 ?k5 ?a6 ?l6 ?c6 ?k6 ?a7 ?l7 ?c7 ?k7 ?a8 ?l8 ?c8 ?k8 ?a9 ?l9 ?c9 ?k9 ?a10 ?l10 ?c10 ?k10 ?a11 ?l11 ?c11 ?k11 ?dl11 ?a12 ?l12 ?c12 ?k12 ?a13 ?l13 ?c13 ?k13 ?a14 ?l14 ?c14 ?k14 ?a15 ?l15 ?c15 ?k15 ?l16 ?c16 ?k16 ?a17 ?l17 ?c17 ?k17 ?a18 ?l18 ?c18 ?k18 ?a19 ?l19 ?c19 ?k19 ?a20 ?l20 ?c20 ?k20 ?a21 ?l21 ?c21 ?k21 ?l22 ?c22 ?k22 ?a23 ?l23 ?c23 ?k23 ?a24 ?l24 ?c24 ?k24 ?a25 ?l25 ?c25 ?k25 ?a26 ?l26 ?c26 ?k26 ?a27 ?l27 ?c27 ?k27 ?a28 ?l28 ?c28 ?k28 ?a29 ?l29 ?c29 ?k29 ?a30 ?l30 ?c30 ?k30 ?a31 ?l31 ?c31 ?k31 ?q0 ?q1 ?q2 ?q3 ?q4 ?qt4 ?q5 ?q6 ?q7 ?qt7 ?q8 ?qt8 ?q9 ?zz0 ?zz1 ?zz2 ?zz3 ?zz4 ?zz5 ?zz6 ?zz7 ?zz8 ?zz9 ?zz10 ?zz11 ?zz12
  (case x0|xl0|x1|xl1|x2|xl2|xi2|x3|xl3|xi3|x4|xl4|x5|xl5|x6|xl6|x7|xl7|xi7|x8|xl8|xi8=>k_is)
  (case xo0 => decide +kernel)
  (case xk0 => decide +kernel)
  (case xa0|xb0|xe0|xf0|wh0|wr0|wf0=>k_is)
  (case xo1 => decide +kernel)
  (case xk1 => decide +kernel)
  (case xa1|xb1|xe1|xf1|xna1_0=>k_is)
  (case xo2 => decide +kernel)
  (case xk2 => decide +kernel)
  (case xa2|xb2|xe2|xf2|xn2|xp2|xna2_0=>k_is)
  (case xo3 => decide +kernel)
  (case xk3 => decide +kernel)
  (case xa3|xb3|xe3|xf3|xn3|xp3|xna3_0=>k_is)
  (case xo4 => decide +kernel)
  (case xk4 => decide +kernel)
  (case xa4|xb4|xe4|xf4|xna4_0=>k_is)
  (case xo5 => decide +kernel)
  (case xk5 => decide +kernel)
  (case xa5|xb5|xe5|xf5|xna5_0=>k_is)
  (case xo6 => decide +kernel)
  (case xk6 => decide +kernel)
  (case xa6|xb6|xe6|xf6|xna6_0=>k_is)
  (case xo7 => decide +kernel)
  (case xk7 => decide +kernel)
  (case xa7|xb7|xe7|xf7|xn7|xp7|xna7_0=>k_is)
  (case xo8 => rfl)
  (case xk8 => decide +kernel)
  (case xa8|xb8|xg8|xe8|xf8|xm8|xn8|xp8|xna8_0|xna8_1|xna8_2|xcg|xct|a0|l0|c0|k0|a1|l1|c1|k1|a2|l2|c2|k2|a3|l3|c3|k3|a4|l4|c4|k4|a5|l5|c5|k5|a6|l6|c6|k6|a7|l7|c7|k7|a8|l8|c8|k8|a9|l9|c9|k9|a10|l10|c10|k10|a11|l11|c11|k11|dl11|a12|l12|c12|k12|a13|l13|c13|k13|a14|l14|c14|k14|a15|l15|c15|k15|l16|c16|k16|a17|l17|c17|k17|a18|l18|c18|k18|a19|l19|c19|k19|a20|l20|c20|k20|a21|l21|c21|k21|l22|c22|k22|a23|l23|c23|k23|a24|l24|c24|k24|a25|l25|c25|k25|a26|l26|c26|k26|a27|l27|c27|k27|a28|l28|c28|k28|a29|l29|c29|k29|a30|l30|c30|k30|a31|l31|c31|k31|q0|q1|q2|q3|q4|qt4|q5|q6|q7|qt7|q8|qt8|q9|zz0|zz1|zz2|zz3|zz4|zz5|zz6|zz7|zz8|zz9|zz10|zz11|zz12=>k_is)
