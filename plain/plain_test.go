package plain_test

import (
	"fmt"
	"math"
	"slices"
	"strings"
	"testing"
	"unsafe"

	"shelfmark/api"
	"shelfmark/plain"
	"shelfmark/sample"
)

var null, number, text = sample.Null, sample.Int, sample.Text

func put(key string, r ...api.Val) api.Op {
	return api.Op{Kind: api.OpPut, Key: key, Rec: r}
}

func del(key string) api.Op {
	return api.Op{Kind: api.OpDel, Key: key}
}

func get(key string) api.Op {
	return api.Op{Kind: api.OpGet, Key: key}
}

func cas(key string, old api.Record, r ...api.Val) api.Op {
	return api.Op{Kind: api.OpCas, Key: key, Old: old, Rec: r}
}

func scan(from, to string, limit int) api.Op {
	return api.Op{Kind: api.OpScan, Key: from, To: to, Limit: limit}
}

func query(id int, low, high []api.Val, limit int) api.Op {
	return api.Op{Kind: api.OpQuery, Id: id, Low: low, High: high, Limit: limit}
}

func declare(fields ...int) api.Op {
	return api.Op{Kind: api.OpDeclare, Fields: fields}
}

func drop(id int) api.Op {
	return api.Op{Kind: api.OpDrop, Id: id}
}

func sameRow(a, b api.Row) bool {
	return a.Key == b.Key && slices.Equal(a.Rec, b.Rec)
}

// sameReply takes a list that is nil for the same as one without elements.
func sameReply(a, b api.Reply) bool {
	return a.Code == b.Code && a.There == b.There && a.Id == b.Id && slices.Equal(a.Rec, b.Rec) && slices.EqualFunc(a.Rows, b.Rows, sameRow)
}

// stateOf tells all that can be told of a store: what is in it, and which number it would give the next index.
func stateOf(s *plain.Store) []string {
	var l []string
	for _, row := range s.Rows() {
		l = append(l, fmt.Sprintf("%q %#v", row.Key, row.Rec))
	}
	for _, x := range s.Indexes() {
		l = append(l, fmt.Sprintf("%#v %x", x, s.Shown(x.Id)))
	}
	next := s.Copy().Do(declare(0))
	return append(l, fmt.Sprintf("%d %d", next.Code, next.Id))
}

// step is an operation, and what is answered then.
type step struct {
	op   api.Op
	want api.Reply
}

// walk does operations one behind the other.
func walk(t *testing.T, s *plain.Store, steps ...step) {
	t.Helper()
	for i, c := range steps {
		if got := s.Do(c.op); !sameReply(got, c.want) {
			t.Errorf("step %d, %#v: %#v, not %#v", i, c.op, got, c.want)
		}
	}
}

// made is a store that did operations.
func made(ops ...api.Op) *plain.Store {
	s := plain.New()
	for _, op := range ops {
		s.Do(op)
	}
	return s
}

// filled is a store with records and indexes, of which one was dropped.
func filled() *plain.Store {
	return made(
		declare(0), declare(1), declare(1, 0), drop(2),
		put("b", number(2), text("x")), put("a", number(3)), put("c", number(1), text("x"), null()), put("d", null(), text("w")), put("\xff", number(2), text("x")),
	)
}

func rowsOf(keys ...string) []api.Row {
	var l []api.Row
	for _, key := range keys {
		l = append(l, api.Row{Key: key, Rec: filled().Do(get(key)).Rec})
	}
	return l
}

// model is a store by the words of the chapter: rows in no order, and all indexes that were declared, with Id 0 when they are dropped.
type model struct {
	rows    []api.Row
	indexes []api.Index
}

func (m *model) at(key string) int {
	return slices.IndexFunc(m.rows, func(row api.Row) bool { return row.Key == key })
}

func (m *model) take(key string) (api.Record, bool) {
	at := m.at(key)
	if at < 0 {
		return nil, false
	}
	r := m.rows[at].Rec
	m.rows = slices.Delete(m.rows, at, at+1)
	return r, true
}

// sorted are the rows that a name is found for, by rising names.
func (m *model) sorted(name func(api.Row) (string, bool)) ([]api.Row, []string) {
	var rows []api.Row
	var names []string
	for _, row := range m.rows {
		s, ok := name(row)
		if !ok {
			continue
		}
		at := 0
		for at < len(names) && names[at] < s {
			at++
		}
		rows, names = slices.Insert(rows, at, row), slices.Insert(names, at, s)
	}
	return rows, names
}

func (m *model) shown(id int, low, high []api.Val) ([]api.Row, []string) {
	return m.sorted(func(row api.Row) (string, bool) {
		var l []api.Val
		for _, n := range m.indexes[id-1].Fields {
			if n >= len(row.Rec) || row.Rec[n] == null() {
				return "", false
			}
			l = append(l, row.Rec[n])
		}
		return sample.Entry(id, l, row.Key), sample.LiesIn(l, low, high)
	})
}

func (m *model) isThere(id int) bool {
	return id >= 1 && id <= len(m.indexes) && m.indexes[id-1].Id == id
}

func (m *model) do(op api.Op) api.Reply {
	switch op.Kind {
	case api.OpPut:
		_, there := m.take(op.Key)
		m.rows = append(m.rows, api.Row{Key: op.Key, Rec: op.Rec})
		return api.Reply{There: there}
	case api.OpDel:
		_, there := m.take(op.Key)
		return api.Reply{There: there}
	case api.OpGet:
		if at := m.at(op.Key); at >= 0 {
			return api.Reply{There: true, Rec: m.rows[at].Rec}
		}
	case api.OpCas:
		stands := m.do(get(op.Key))
		if stands.There != (len(op.Old) > 0) || !slices.Equal(stands.Rec, op.Old) {
			stands.Code = api.ErrClash
			return stands
		}
		return m.do(put(op.Key, op.Rec...))
	case api.OpScan:
		rows, _ := m.sorted(func(row api.Row) (string, bool) {
			return row.Key, row.Key >= op.Key && (op.To == "" || row.Key < op.To)
		})
		return api.Reply{Rows: rows[:min(len(rows), op.Limit)]}
	case api.OpQuery:
		if !m.isThere(op.Id) {
			return api.Reply{Code: api.ErrNone}
		}
		rows, _ := m.shown(op.Id, op.Low, op.High)
		return api.Reply{Rows: rows[:min(len(rows), op.Limit)]}
	case api.OpDeclare:
		if len(m.indexes) == 6 {
			return api.Reply{Code: api.ErrMany}
		}
		m.indexes = append(m.indexes, api.Index{Id: len(m.indexes) + 1, Fields: op.Fields})
		return api.Reply{Id: len(m.indexes)}
	case api.OpDrop:
		if !m.isThere(op.Id) {
			return api.Reply{Code: api.ErrNone}
		}
		m.indexes[op.Id-1].Id = 0
	}
	return api.Reply{}
}

// stateOf tells of the model what stateOf tells of a store.
func (m *model) stateOf() []string {
	var l []string
	rows, _ := m.sorted(func(row api.Row) (string, bool) { return row.Key, true })
	for _, row := range rows {
		l = append(l, fmt.Sprintf("%q %#v", row.Key, row.Rec))
	}
	for id := range len(m.indexes) {
		if m.isThere(id + 1) {
			_, entries := m.shown(id+1, nil, nil)
			l = append(l, fmt.Sprintf("%#v %x", m.indexes[id], entries))
		}
	}
	if len(m.indexes) == 6 {
		return append(l, fmt.Sprintf("%d 0", api.ErrMany))
	}
	return append(l, fmt.Sprintf("0 %d", len(m.indexes)+1))
}

// P5.2

func TestNew(t *testing.T) {
	s := plain.New()
	if len(s.Rows()) != 0 || len(s.Indexes()) != 0 {
		t.Errorf("a new store has %#v and %#v", s.Rows(), s.Indexes())
	}
	for id := -1; id <= 8; id++ {
		if l := s.Shown(id); len(l) != 0 {
			t.Errorf("a new store shows %x", l)
		}
	}
	walk(t, s,
		step{get("k"), api.Reply{}},
		step{del("k"), api.Reply{}},
		step{scan("", "", 64), api.Reply{}},
		step{query(1, nil, nil, 64), api.Reply{Code: api.ErrNone}},
		step{drop(1), api.Reply{Code: api.ErrNone}},
	)
	other := plain.New()
	other.Do(put("k", number(1)))
	if len(s.Rows()) != 0 {
		t.Error("two new stores are one")
	}
}

func TestPutDelGet(t *testing.T) {
	one, two, three := api.Record{number(1)}, api.Record{null(), text("a"), null(), number(2)}, api.Record{text("")}
	there := api.Reply{There: true}
	walk(t, plain.New(),
		step{put("k", one...), api.Reply{}},
		step{get("k"), api.Reply{There: true, Rec: one}},
		step{put("k", two...), there},
		step{get("k"), api.Reply{There: true, Rec: two}},
		step{put("k", two...), there},
		step{get("k\x00"), api.Reply{}},
		step{put("k\x00", three...), api.Reply{}},
		step{get("k"), api.Reply{There: true, Rec: two}},
		step{get("k\x00"), api.Reply{There: true, Rec: three}},
		step{del("l"), api.Reply{}},
		step{del("k"), there},
		step{del("k"), api.Reply{}},
		step{get("k"), api.Reply{}},
		step{get("k\x00"), api.Reply{There: true, Rec: three}},
		step{put("k", one...), api.Reply{}},
		step{get("k"), api.Reply{There: true, Rec: one}},
	)
}

func TestRecordsOfAllSorts(t *testing.T) {
	s := plain.New()
	for _, key := range sample.Keys() {
		for _, r := range sample.Records() {
			s.Do(put(key, r...))
			if got := s.Do(get(key)); !sameReply(got, api.Reply{There: true, Rec: r}) {
				t.Errorf("under %q stands %#v, not %#v", key, got, r)
			}
		}
	}
	if len(s.Rows()) != len(sample.Keys()) {
		t.Errorf("%d records", len(s.Rows()))
	}
}

func TestCas(t *testing.T) {
	one, two, long := api.Record{number(1)}, api.Record{text("a"), null()}, api.Record{number(1), null()}
	there := api.Reply{There: true}
	stands := func(r api.Record) api.Reply { return api.Reply{There: true, Rec: r} }
	clash := func(r api.Record) api.Reply { return api.Reply{Code: api.ErrClash, There: r != nil, Rec: r} }
	walk(t, plain.New(),
		step{cas("k", one, two...), clash(nil)},
		step{cas("k", two, two...), clash(nil)},
		step{get("k"), api.Reply{}},
		step{cas("k", nil, one...), api.Reply{}},
		step{get("k"), stands(one)},
		step{cas("k", nil, two...), clash(one)},
		step{cas("k", api.Record{}, two...), clash(one)},
		step{cas("k", nil, one...), clash(one)},
		step{cas("k", long, two...), clash(one)},
		step{cas("k", api.Record{number(2)}, two...), clash(one)},
		step{cas("k", api.Record{text("")}, two...), clash(one)},
		step{cas("l", one, two...), clash(nil)},
		step{get("k"), stands(one)},
		step{cas("k", one, long...), there},
		step{get("k"), stands(long)},
		step{cas("k", one, two...), clash(long)},
		step{cas("k", api.Record{number(1), number(0)}, two...), clash(long)},
		step{cas("k", api.Record{null(), number(1)}, two...), clash(long)},
		step{cas("k", long, long...), there},
		step{cas("k", long, two...), there},
		step{cas("k", long, one...), clash(two)},
		step{get("k"), stands(two)},
		step{del("k"), there},
		step{cas("k", two, one...), clash(nil)},
		step{cas("k", api.Record{}, two...), api.Reply{}},
		step{get("k"), stands(two)},
		step{get("l"), api.Reply{}},
	)
}

func TestScan(t *testing.T) {
	for _, c := range []struct {
		from, to string
		limit    int
		want     []string
	}{
		{"", "", 64, []string{"a", "b", "c", "d", "\xff"}},
		{"", "", 5, []string{"a", "b", "c", "d", "\xff"}},
		{"", "", 4, []string{"a", "b", "c", "d"}},
		{"", "", 1, []string{"a"}},
		{"a", "", 2, []string{"a", "b"}},
		{"a\x00", "", 2, []string{"b", "c"}},
		{"a", "c", 64, []string{"a", "b"}},
		{"b", "c\x00", 64, []string{"b", "c"}},
		{"b", "c\x00", 1, []string{"b"}},
		{"b", "b\x00", 64, []string{"b"}},
		{"b", "b", 64, nil},
		{"c", "b", 64, nil},
		{"", "a", 64, nil},
		{"", "a\x00", 64, []string{"a"}},
		{"", "\x00", 64, nil},
		{"d\x00", "", 64, []string{"\xff"}},
		{"d\x00", "\xff", 64, nil},
		{"\xff", "", 64, []string{"\xff"}},
		{"\xff\x00", "", 64, nil},
		{strings.Repeat("\xff", 16), "", 64, nil},
		{"aaaaaaaaaaaaaaaa", strings.Repeat("\xff", 16), 64, []string{"b", "c", "d", "\xff"}},
	} {
		walk(t, filled(), step{scan(c.from, c.to, c.limit), api.Reply{Rows: rowsOf(c.want...)}})
	}
}

func TestQuery(t *testing.T) {
	one, two, x := []api.Val{number(1)}, []api.Val{number(2)}, []api.Val{text("x")}
	for _, c := range []struct {
		id        int
		low, high []api.Val
		limit     int
		want      []string
	}{
		{1, nil, nil, 64, []string{"c", "b", "\xff", "a"}},
		{1, nil, nil, 4, []string{"c", "b", "\xff", "a"}},
		{1, nil, nil, 3, []string{"c", "b", "\xff"}},
		{1, nil, nil, 1, []string{"c"}},
		{1, two, nil, 64, []string{"b", "\xff", "a"}},
		{1, two, nil, 2, []string{"b", "\xff"}},
		{1, nil, two, 64, []string{"c", "b", "\xff"}},
		{1, two, two, 64, []string{"b", "\xff"}},
		{1, two, one, 64, nil},
		{1, nil, []api.Val{null()}, 64, nil},
		{1, []api.Val{null()}, []api.Val{text("")}, 64, []string{"c", "b", "\xff", "a"}},
		{1, []api.Val{number(2), null()}, nil, 64, []string{"a"}},
		{1, nil, []api.Val{number(2), null()}, 64, []string{"c", "b", "\xff"}},
		{1, x, nil, 64, nil},
		{3, nil, nil, 64, []string{"c", "b", "\xff"}},
		{3, x, x, 64, []string{"c", "b", "\xff"}},
		{3, []api.Val{text("x"), number(2)}, x, 64, []string{"b", "\xff"}},
		{3, []api.Val{text("x"), number(2)}, x, 1, []string{"b"}},
		{3, x, []api.Val{text("x"), number(1)}, 64, []string{"c"}},
		{3, []api.Val{text("x"), number(2), null(), null()}, nil, 64, nil},
		{3, nil, []api.Val{text("w")}, 64, nil},
	} {
		walk(t, filled(), step{query(c.id, c.low, c.high, c.limit), api.Reply{Rows: rowsOf(c.want...)}})
	}
}

func TestQueryOfAnIndexThatIsNotThere(t *testing.T) {
	s := filled()
	for _, id := range []int{2, 4, 5, 6} {
		walk(t, s, step{query(id, nil, nil, 64), api.Reply{Code: api.ErrNone}})
		// What is wrong with the operation is told ahead of that.
		walk(t, s, step{query(id, nil, nil, 0), api.Reply{Code: api.ErrArg}})
	}
}

func TestIndexesGoWithTheRecords(t *testing.T) {
	all := query(1, nil, nil, 64)
	one := func(r ...api.Val) api.Reply { return api.Reply{Rows: []api.Row{{Key: "k", Rec: r}}} }
	there := api.Reply{There: true}
	walk(t, plain.New(),
		step{put("k", number(1), text("a")), api.Reply{}},
		step{declare(1), api.Reply{Id: 1}},
		step{all, one(number(1), text("a"))},
		step{put("k", number(2), text("a")), there},
		step{all, one(number(2), text("a"))},
		step{put("k", number(2), text("b")), there},
		step{query(1, nil, []api.Val{text("a")}, 64), api.Reply{}},
		step{query(1, []api.Val{text("b")}, nil, 64), one(number(2), text("b"))},
		step{put("k", number(2)), there},
		step{all, api.Reply{}},
		step{cas("k", api.Record{number(2)}, number(2), number(0)), there},
		step{all, one(number(2), number(0))},
		step{put("k", number(2), null()), there},
		step{all, api.Reply{}},
		step{put("k", null(), number(3)), there},
		step{all, one(null(), number(3))},
		step{del("k"), there},
		step{all, api.Reply{}},
	)
}

func TestDeclareAndDrop(t *testing.T) {
	none := api.Reply{Code: api.ErrNone}
	many := api.Reply{Code: api.ErrMany}
	walk(t, plain.New(),
		step{drop(1), none},
		step{declare(0), api.Reply{Id: 1}},
		step{declare(0), api.Reply{Id: 2}},
		step{drop(1), api.Reply{}},
		step{drop(1), none},
		step{query(1, nil, nil, 1), none},
		step{query(2, nil, nil, 1), api.Reply{}},
		step{declare(3, 0), api.Reply{Id: 3}},
		step{drop(4), none},
		step{declare(1), api.Reply{Id: 4}},
		step{drop(4), api.Reply{}},
		step{declare(1), api.Reply{Id: 5}},
		step{declare(0, 0), api.Reply{Code: api.ErrArg}},
		step{declare(2, 1), api.Reply{Id: 6}},
		step{declare(1), many},
		step{drop(6), api.Reply{}},
		step{drop(2), api.Reply{}},
		step{declare(1), many},
		// What is wrong with the operation is told ahead of that.
		step{declare(), api.Reply{Code: api.ErrArg}},
		step{declare(0, 1, 2), api.Reply{Code: api.ErrLarge}},
		step{drop(6), none},
		step{drop(3), api.Reply{}},
		step{drop(5), api.Reply{}},
		step{declare(1), many},
	)
}

func TestOthersDoNothing(t *testing.T) {
	s := filled()
	before := stateOf(s)
	for _, op := range []api.Op{
		{Kind: api.OpSplit, Space: api.Records, Key: "b"},
		{Kind: api.OpSplit, Space: api.Entries, Key: strings.Repeat("b", api.MaxAt)},
		{Kind: api.OpMerge, Space: api.Entries, Key: "b", Id: 1, Fields: []int{0}, Rec: api.Record{number(1)}},
		{Kind: api.OpMove, Space: api.Records, Node: 4},
		{Kind: api.OpMove, Space: api.Entries, Key: "a", Node: 1},
		{Kind: api.OpCancel},
		{Kind: api.OpCancel, Key: "a", Id: 1, Limit: 9},
	} {
		walk(t, s, step{op, api.Reply{}})
	}
	if !slices.Equal(stateOf(s), before) {
		t.Errorf("operations that do nothing changed %q to %q", before, stateOf(s))
	}
}

func TestWhatAsksOnlyChangesNothing(t *testing.T) {
	s := filled()
	before := stateOf(s)
	for _, op := range []api.Op{
		get("a"), get("z"), scan("", "", 64), query(1, nil, nil, 64), query(2, nil, nil, 64), del("z"), drop(2), drop(6),
		cas("a", nil, number(9)), cas("z", api.Record{number(9)}, number(9)), put("a", number(3)), cas("a", api.Record{number(3)}, number(3)),
	} {
		s.Do(op)
		if !slices.Equal(stateOf(s), before) {
			t.Errorf("%#v changed %q to %q", op, before, stateOf(s))
		}
	}
}

// opOf throws for an operation on few keys with few values, so that they meet.
func opOf(d *sample.Dice, m *model) api.Op {
	keys := []string{"a", "a\x00", "b", "c", "d", "e", "\xff"}
	few := []api.Val{null(), number(-1), number(2), text(""), text("a"), text("a\x00"), text("b")}
	vals := func(least, most int) []api.Val {
		l := make([]api.Val, least+d.Below(most-least+1))
		for i := range l {
			l[i] = sample.Pick(d, few)
		}
		return l
	}
	key := sample.Pick(d, keys)
	id := 1 + d.Below(6)
	switch d.Below(40) {
	case 0:
		return declare(sample.Pick(d, sample.FieldLists())...)
	case 1:
		return drop(id)
	case 2, 3, 4, 5, 6:
		return del(key)
	case 7, 8, 9:
		return get(key)
	case 10, 11, 12:
		return scan(key, sample.Pick(d, append(keys, "")), 1+d.Below(8))
	case 13, 14, 15, 16, 17, 18:
		return query(id, vals(0, 3), vals(0, 3), 1+d.Below(8))
	case 19, 20, 21:
		return cas(key, m.do(get(key)).Rec, vals(1, 4)...)
	case 22, 23:
		return cas(key, vals(0, 1), vals(1, 1)...)
	}
	return put(key, vals(1, 4)...)
}

func TestLongWalksAnswerAsTheWordsSay(t *testing.T) {
	for from := range 40 {
		d := sample.Dice(from)
		s, m := plain.New(), &model{}
		told := 0
		for i := range 300 {
			op := opOf(&d, m)
			want := m.do(op)
			if got := s.Do(op); !sameReply(got, want) {
				t.Fatalf("walk %d, step %d, %#v: %#v, not %#v", from, i, op, got, want)
			}
			told += len(want.Rows)
			if i%10 == 0 && !slices.Equal(stateOf(s), m.stateOf()) {
				t.Fatalf("walk %d, step %d, %#v: the store is %q, not %q", from, i, op, stateOf(s), m.stateOf())
			}
		}
		if told == 0 {
			t.Errorf("walk %d tells no row", from)
		}
	}
}

// P5.3

func TestRows(t *testing.T) {
	if got, want := filled().Rows(), rowsOf("a", "b", "c", "d", "\xff"); !slices.EqualFunc(got, want, sameRow) {
		t.Errorf("Rows = %#v, not %#v", got, want)
	}
	s := plain.New()
	var want []api.Row
	for i := range 1000 {
		row := api.Row{Key: fmt.Sprintf("%04d", i), Rec: api.Record{number(i)}}
		want = append(want, row)
		s.Do(put(fmt.Sprintf("%04d", i*7%1000), number(i*7%1000)))
	}
	if got := s.Rows(); !slices.EqualFunc(got, want, sameRow) {
		t.Errorf("of 1000 records %d are told", len(got))
	}
	if got := s.Do(scan("", "", 64)).Rows; !slices.EqualFunc(got, want[:64], sameRow) {
		t.Errorf("of 1000 records a scan tells %d", len(got))
	}
}

func TestIndexes(t *testing.T) {
	same := func(a, b api.Index) bool { return a.Id == b.Id && slices.Equal(a.Fields, b.Fields) }
	s := made(declare(1, 0), declare(3), declare(0), declare(3))
	for _, c := range []struct {
		gone int
		want []api.Index
	}{
		{6, []api.Index{{Id: 1, Fields: []int{1, 0}}, {Id: 2, Fields: []int{3}}, {Id: 3, Fields: []int{0}}, {Id: 4, Fields: []int{3}}}},
		{2, []api.Index{{Id: 1, Fields: []int{1, 0}}, {Id: 3, Fields: []int{0}}, {Id: 4, Fields: []int{3}}}},
		{4, []api.Index{{Id: 1, Fields: []int{1, 0}}, {Id: 3, Fields: []int{0}}}},
		{1, []api.Index{{Id: 3, Fields: []int{0}}}},
		{3, nil},
	} {
		s.Do(drop(c.gone))
		if got := s.Indexes(); !slices.EqualFunc(got, c.want, same) {
			t.Errorf("Indexes = %v, not %v", got, c.want)
		}
	}
	s.Do(declare(2))
	if got := s.Indexes(); len(got) != 1 || !same(got[0], api.Index{Id: 5, Fields: []int{2}}) {
		t.Errorf("Indexes = %v", got)
	}
}

func TestShown(t *testing.T) {
	s := filled()
	one, two, three, x := number(1), number(2), number(3), text("x")
	for _, c := range []struct {
		id   int
		want []string
	}{
		{1, []string{sample.Entry(1, []api.Val{one}, "c"), sample.Entry(1, []api.Val{two}, "b"), sample.Entry(1, []api.Val{two}, "\xff"), sample.Entry(1, []api.Val{three}, "a")}},
		{3, []string{sample.Entry(3, []api.Val{x, one}, "c"), sample.Entry(3, []api.Val{x, two}, "b"), sample.Entry(3, []api.Val{x, two}, "\xff")}},
	} {
		if got := s.Shown(c.id); !slices.Equal(got, c.want) {
			t.Errorf("Shown(%d) = %x, not %x", c.id, got, c.want)
		}
	}
	for _, id := range append(sample.BadIds(), 2, 4, 5, 6) {
		if got := s.Shown(id); len(got) != 0 {
			t.Errorf("Shown(%d) = %x", id, got)
		}
	}
}

func TestShownTellsAllHoweverMany(t *testing.T) {
	s := made(declare(0))
	var want []string
	for i := range 200 {
		want = append(want, sample.Entry(1, []api.Val{number(i)}, fmt.Sprint(199-i)))
		s.Do(put(fmt.Sprint(i), number(199-i)))
	}
	if got := s.Shown(1); !slices.Equal(got, want) {
		t.Errorf("of 200 entries %d are shown", len(got))
	}
	if got := s.Do(query(1, nil, nil, 64)).Rows; len(got) != 64 || got[0].Key != "199" || got[63].Key != "136" {
		t.Errorf("of 200 rows a query tells %d", len(got))
	}
}

func TestCopy(t *testing.T) {
	s := filled()
	before := stateOf(s)
	c := s.Copy()
	if !slices.Equal(stateOf(c), before) {
		t.Errorf("a copy of %q is %q", before, stateOf(c))
	}
	changes := []api.Op{put("a", number(9)), put("z", number(9)), del("b"), cas("c", c.Do(get("c")).Rec, number(7)), declare(0), drop(1), declare(2), drop(3)}
	for _, op := range changes {
		if got := c.Do(op); got.Code != api.OK {
			t.Errorf("%#v of a copy: %#v", op, got)
		}
		if !slices.Equal(stateOf(s), before) {
			t.Errorf("%#v of a copy changed %q to %q", op, before, stateOf(s))
		}
	}
	after := stateOf(c)
	for _, op := range changes {
		if got := s.Do(op); got.Code != api.OK {
			t.Errorf("%#v of what was copied: %#v", op, got)
		}
		if !slices.Equal(stateOf(c), after) {
			t.Errorf("%#v of what was copied changed the copy %q to %q", op, after, stateOf(c))
		}
	}
	if !slices.Equal(stateOf(s), after) {
		t.Errorf("the same operations made %q and %q", stateOf(s), after)
	}
	if l := stateOf(plain.New().Copy()); !slices.Equal(l, stateOf(plain.New())) {
		t.Errorf("a copy of a new store is %q", l)
	}
}

func TestACopyGivesNoNumberAgain(t *testing.T) {
	s := made(declare(0), declare(0), declare(0), declare(0), declare(0), drop(4), drop(5))
	c := s.Copy()
	walk(t, c, step{query(5, nil, nil, 1), api.Reply{Code: api.ErrNone}}, step{declare(1), api.Reply{Id: 6}}, step{declare(1), api.Reply{Code: api.ErrMany}})
	walk(t, s, step{query(6, nil, nil, 1), api.Reply{Code: api.ErrNone}}, step{declare(2), api.Reply{Id: 6}})
}

// P5.4, R4

// roomy is an operation whose lists all have others behind them, and a test that they are as they were.
func roomy(t *testing.T, op api.Op) (api.Op, func()) {
	behind := []api.Val{text("z"), {Kind: 9}, number(7), number(8), number(9)}
	rec, checkRec := sample.InRoom(t, op.Rec, behind...)
	old, checkOld := sample.InRoom(t, op.Old, behind...)
	low, checkLow := sample.InRoom(t, op.Low, behind...)
	high, checkHigh := sample.InRoom(t, op.High, behind...)
	fields, checkFields := sample.InRoom(t, op.Fields, 1, 2, 3)
	op.Rec, op.Old, op.Low, op.High, op.Fields = rec, old, low, high, fields
	return op, func() {
		t.Helper()
		for _, check := range []func(){checkRec, checkOld, checkLow, checkHigh, checkFields} {
			check()
		}
	}
}

// manyOps are operations of all kinds, right ones and wrong ones.
func manyOps() []api.Op {
	d := sample.Dice(5)
	m := &model{}
	var l []api.Op
	for range 200 {
		op := opOf(&d, m)
		m.do(op)
		l = append(l, op)
	}
	for _, kind := range allKinds() {
		l = append(l, junk(kind), right(kind, fieldsOf(kind)), api.Op{Kind: kind})
	}
	return l
}

func TestWhatIsHandedInStays(t *testing.T) {
	s, other := plain.New(), plain.New()
	for _, op := range manyOps() {
		room, check := roomy(t, op)
		e := plain.Check(room)
		if got, want := s.Do(room), other.Do(op); !sameReply(got, want) || e != plain.Check(op) {
			t.Errorf("%#v with others behind its lists: %#v, not %#v", op, got, want)
		}
		check()
		if !slices.Equal(stateOf(s), stateOf(other)) {
			t.Fatalf("%#v with others behind its lists made %q of %q", op, stateOf(s), stateOf(other))
		}
		check()
	}
}

func TestWhatIsHandedInIsNotKept(t *testing.T) {
	b := []byte("keykeyab")
	s := unsafe.String(&b[0], len(b))
	rec, fields := api.Record{text(s[6:8]), number(1)}, []int{1, 0}
	store := plain.New()
	store.Do(put(s[:3], rec...))
	store.Do(api.Op{Kind: api.OpPut, Key: s[:3], Rec: rec})
	store.Do(api.Op{Kind: api.OpCas, Key: s[1:4], Rec: rec})
	store.Do(api.Op{Kind: api.OpDeclare, Fields: fields})
	want := []api.Row{{Key: "eyk", Rec: api.Record{text("ab"), number(1)}}, {Key: "key", Rec: api.Record{text("ab"), number(1)}}}
	check := func() {
		t.Helper()
		if got := store.Rows(); !slices.EqualFunc(got, want, sameRow) {
			t.Errorf("what was put became %#v", got)
		}
		if got := store.Indexes(); len(got) != 1 || !slices.Equal(got[0].Fields, []int{1, 0}) {
			t.Errorf("what was declared became %#v", got)
		}
		if got := store.Do(query(1, []api.Val{number(1), text("ab")}, nil, 9)); !slices.EqualFunc(got.Rows, want, sameRow) {
			t.Errorf("what is shown became %#v", got)
		}
	}
	check()
	copy(b, "otherxyz")
	rec[0], rec[1] = number(5), null()
	fields[0], fields[1] = 3, 3
	check()
}

// shake writes over a list and grows it into what lies behind it.
func shake[T any](l []T, other T) {
	l = l[:cap(l)]
	for i := range l {
		l[i] = other
	}
}

// shakeRows does so with rows and the records in them.
func shakeRows(l []api.Row) {
	for _, row := range l {
		shake(row.Rec, number(99))
	}
	shake(l, api.Row{Key: "other"})
}

func TestWhatIsAnsweredIsNew(t *testing.T) {
	s := filled()
	before := stateOf(s)
	c := s.Copy()
	check := func(what string) {
		t.Helper()
		if !slices.Equal(stateOf(s), before) || !slices.Equal(stateOf(c), before) {
			t.Fatalf("by what %s answered %q became %q, its copy %q", what, before, stateOf(s), stateOf(c))
		}
	}
	for _, op := range []api.Op{get("b"), cas("b", nil, number(1)), scan("", "", 64), scan("b", "", 1), query(1, nil, nil, 64), query(3, nil, nil, 2)} {
		got := s.Do(op)
		shake(got.Rec, number(99))
		shakeRows(got.Rows)
		check(fmt.Sprintf("%#v", op))
	}
	shakeRows(s.Rows())
	check("Rows")
	shakeRows(c.Rows())
	check("Rows of the copy")
	for _, store := range []*plain.Store{s, c} {
		l := store.Indexes()
		for _, x := range l {
			shake(x.Fields, 2)
		}
		shake(l, api.Index{Id: 9})
		check("Indexes")
		shake(store.Shown(1), "other")
		check("Shown")
	}
}

func TestListsOfOneAnswerShareNothing(t *testing.T) {
	want := rowsOf("a", "b", "c", "d", "\xff")
	for i := range want {
		for _, got := range [][]api.Row{filled().Rows(), filled().Do(scan("", "", 64)).Rows} {
			shake(got[i].Rec, number(99))
			for j, row := range got {
				if i != j && !sameRow(row, want[j]) {
					t.Errorf("row %d became %#v by row %d", j, row, i)
				}
			}
		}
	}
	s := made(declare(0, 1), declare(2, 3), declare(1, 2))
	for i := range 3 {
		l := s.Indexes()
		shake(l[i].Fields, 9)
		for j, x := range l {
			if i != j && slices.Contains(x.Fields, 9) {
				t.Errorf("index %d became %v by index %d", j, x, i)
			}
		}
	}
}

func TestAnswersShareNothingWithEachOther(t *testing.T) {
	s := filled()
	first, second := s.Do(query(1, nil, nil, 64)), s.Do(query(1, nil, nil, 64))
	shakeRows(first.Rows)
	if !slices.EqualFunc(second.Rows, rowsOf("c", "b", "\xff", "a"), sameRow) {
		t.Errorf("another answer became %#v", second)
	}
	one, two := s.Do(get("b")), s.Do(get("b"))
	shake(one.Rec, number(99))
	if !slices.Equal(two.Rec, rowsOf("b")[0].Rec) {
		t.Errorf("another answer became %#v", two)
	}
	// What was answered stays, whatever is done to the store.
	rows, indexes, shown, scanned := s.Rows(), s.Indexes(), s.Shown(1), s.Do(scan("", "", 64))
	told := fmt.Sprintf("%#v %#v %#v %#v", rows, indexes, shown, scanned)
	for _, op := range []api.Op{put("a", number(8)), del("b"), drop(1), declare(1), put("c", null()), del("d")} {
		s.Do(op)
	}
	if now := fmt.Sprintf("%#v %#v %#v %#v", rows, indexes, shown, scanned); now != told {
		t.Errorf("%s became %s", told, now)
	}
}

func TestTextsOfAnswersAreNew(t *testing.T) {
	s := made(put("key", text("ab")), declare(0))
	// Where the texts lie that are answered, each time.
	places := func() []*byte {
		row, got := s.Rows()[0], s.Do(get("key"))
		scanned, found := s.Do(scan("", "", 1)).Rows[0], s.Do(query(1, nil, nil, 1)).Rows[0]
		var l []*byte
		for _, text := range []string{row.Key, row.Rec[0].S, got.Rec[0].S, scanned.Key, scanned.Rec[0].S, found.Key, found.Rec[0].S, s.Shown(1)[0]} {
			l = append(l, unsafe.StringData(text))
		}
		return l
	}
	first := places()
	for i, place := range places() {
		if slices.Contains(first, place) {
			t.Errorf("text %d lies where it lay in another answer", i)
		}
	}
}

// P1, R1, R8

func TestAnyArgument(t *testing.T) {
	numbers := []int{math.MinInt, math.MinInt + 1, -1, 0, 1, 2, 64, 1 << 16, 1 << 32, math.MaxInt - 1, math.MaxInt}
	texts := []string{"", "\x00", "a", "\xff", strings.Repeat("a", 16), strings.Repeat("\x00", 100), strings.Repeat("\xff", 1<<16)}
	rows := [][]api.Val{nil, {}, {null()}, {number(1)}, {{Kind: 9}}, {text(strings.Repeat("\x00", 1<<16))}, make([]api.Val, 1<<10)}
	fields := [][]int{nil, {}, {0}, {3, 1}, {-1}, {math.MinInt}, {math.MaxInt, math.MaxInt}, make([]int, 1<<10)}
	d := sample.Dice(9)
	s, other := filled(), filled()
	for range 20000 {
		op := api.Op{
			Kind:   sample.Pick(&d, append(numbers, allKinds()...)),
			Key:    sample.Pick(&d, texts),
			To:     sample.Pick(&d, texts),
			Rec:    sample.Pick(&d, rows),
			Old:    sample.Pick(&d, rows),
			Id:     sample.Pick(&d, numbers),
			Fields: sample.Pick(&d, fields),
			Low:    sample.Pick(&d, rows),
			High:   sample.Pick(&d, rows),
			Limit:  sample.Pick(&d, numbers),
			Space:  sample.Pick(&d, numbers),
			Node:   sample.Pick(&d, numbers),
		}
		e := plain.Check(op)
		one, two := s.Do(op), other.Do(op)
		if e != plain.Check(op) || !sameReply(one, two) || e != api.OK && !sameReply(one, api.Reply{Code: e}) {
			t.Errorf("the same stores answer %#v and %#v", one, two)
		}
	}
	if !slices.Equal(stateOf(s), stateOf(other)) {
		t.Errorf("the same operations made %q and %q", stateOf(s), stateOf(other))
	}
	for _, id := range numbers {
		if !slices.Equal(s.Shown(id), other.Shown(id)) {
			t.Errorf("the same stores show %x and %x", s.Shown(id), other.Shown(id))
		}
	}
}

func TestTheSameStoreAnswersTheSame(t *testing.T) {
	keys := sample.Keys()
	s, turned := made(declare(0), declare(1, 0)), made(declare(0), declare(1, 0))
	for i, key := range keys {
		s.Do(put(key, number(i%3), text("a")))
	}
	for i, key := range slices.Backward(keys) {
		turned.Do(put(key, number(i%3), text("a")))
	}
	want := stateOf(s)
	for range 100 {
		if !slices.Equal(stateOf(s), want) || !slices.Equal(stateOf(turned), want) || !slices.Equal(stateOf(s.Copy()), want) {
			t.Fatalf("%q, then %q, turned about %q", want, stateOf(s), stateOf(turned))
		}
	}
}

// The chapter's examples

func TestExamples(t *testing.T) {
	one, two, three := api.Record{number(1)}, api.Record{number(2)}, api.Record{number(3)}
	walk(t, plain.New(),
		step{put("k", one...), api.Reply{}},
		step{put("k", two...), api.Reply{There: true}},
		step{cas("k", one, three...), api.Reply{Code: api.ErrClash, There: true, Rec: two}},
		step{declare(0), api.Reply{Id: 1}},
		step{query(1, two, nil, 64), api.Reply{Rows: []api.Row{{Key: "k", Rec: two}}}},
		step{drop(1), api.Reply{}},
		step{query(1, two, nil, 64), api.Reply{Code: api.ErrNone}},
		step{declare(0), api.Reply{Id: 2}},
	)
}
