package plain_test

import (
	"math"
	"slices"
	"strings"
	"testing"

	"shelfmark/api"
	"shelfmark/plain"
	"shelfmark/sample"
)

// field is one of an operation's: each of right puts into it what may be, each of wrong what may not.
type field struct {
	right []func(*api.Op)
	wrong []fault
}

type fault struct {
	put func(*api.Op)
	e   api.Errno
}

// fill adds to a field what may be there.
func fill[T any](f *field, set func(*api.Op, T), l ...T) {
	for _, v := range l {
		f.right = append(f.right, func(op *api.Op) { set(op, v) })
	}
}

// spoil adds to a field what may not be there.
func spoil[T any](f *field, e api.Errno, set func(*api.Op, T), l ...T) {
	for _, v := range l {
		f.wrong = append(f.wrong, fault{func(op *api.Op) { set(op, v) }, e})
	}
}

func setKey(op *api.Op, s string)     { op.Key = s }
func setTo(op *api.Op, s string)      { op.To = s }
func setRec(op *api.Op, r api.Record) { op.Rec = r }
func setOld(op *api.Op, r api.Record) { op.Old = r }
func setId(op *api.Op, n int)         { op.Id = n }
func setFields(op *api.Op, l []int)   { op.Fields = l }
func setLow(op *api.Op, l []api.Val)  { op.Low = l }
func setHigh(op *api.Op, l []api.Val) { op.High = l }
func setLimit(op *api.Op, n int)      { op.Limit = n }
func setSpace(op *api.Op, n int)      { op.Space = n }
func setNode(op *api.Op, n int)       { op.Node = n }

func keyField() field {
	var f field
	fill(&f, setKey, sample.Keys()...)
	spoil(&f, api.ErrArg, setKey, sample.BadKeys()...)
	return f
}

func recField(set func(*api.Op, api.Record)) field {
	var f field
	fill(&f, set, sample.Records()...)
	spoil(&f, api.ErrLarge, set, sample.LargeRecords()...)
	spoil(&f, api.ErrArg, set, sample.BadRecords()...)
	return f
}

func newField() field {
	f := recField(setRec)
	spoil(&f, api.ErrArg, setRec, nil, api.Record{})
	return f
}

func oldField() field {
	f := recField(setOld)
	fill(&f, setOld, nil, api.Record{})
	return f
}

func rowField(set func(*api.Op, []api.Val)) field {
	var f field
	fill(&f, set, sample.Borders()...)
	for _, r := range sample.LargeRecords() {
		spoil(&f, api.ErrLarge, set, []api.Val(r))
	}
	for _, r := range sample.BadRecords() {
		spoil(&f, api.ErrArg, set, []api.Val(r))
	}
	return f
}

func numberField(set func(*api.Op, int), least, most int) field {
	var f field
	for n := least; n <= most; n++ {
		fill(&f, set, n)
	}
	spoil(&f, api.ErrArg, set, least-1, most+1, -1, -least-1, 256+least, 1<<32+least, math.MinInt, math.MinInt+least, math.MaxInt)
	return f
}

func textField(set func(*api.Op, string), least, most int) field {
	var f field
	for n := least; n <= most; n++ {
		fill(&f, set, strings.Repeat("\x00", n), strings.Repeat("\xff", n))
	}
	if least > 0 {
		spoil(&f, api.ErrArg, set, "")
	}
	// A text of so many letters that have two bytes each has too many bytes.
	spoil(&f, api.ErrArg, set, strings.Repeat("\x00", most+1), strings.Repeat("a", most+256), strings.Repeat("ä", most), strings.Repeat("a", 1<<20))
	return f
}

func fieldsField() field {
	var f field
	fill(&f, setFields, sample.FieldLists()...)
	spoil(&f, api.ErrArg, setFields, nil, []int{}, []int{-1}, []int{api.MaxFields}, []int{0, 0}, []int{3, 3}, []int{0, -1}, []int{4, 1}, []int{math.MinInt}, []int{0, math.MaxInt}, []int{256, 1})
	spoil(&f, api.ErrLarge, setFields, []int{0, 1, 2}, []int{0, 0, 0}, []int{-1, 9, 9}, make([]int, 1<<16))
	return f
}

// fieldsOf are the fields that count of an operation of this kind, in the order of the chapter's table.
func fieldsOf(kind int) []field {
	idField := numberField(setId, 1, 6)
	limitField := numberField(setLimit, 1, 64)
	spaceField := numberField(setSpace, 0, 1)
	switch kind {
	case api.OpPut:
		return []field{keyField(), newField()}
	case api.OpDel, api.OpGet:
		return []field{keyField()}
	case api.OpCas:
		return []field{keyField(), newField(), oldField()}
	case api.OpScan:
		return []field{textField(setKey, 0, 16), textField(setTo, 0, 16), limitField}
	case api.OpQuery:
		return []field{idField, rowField(setLow), rowField(setHigh), limitField}
	case api.OpDeclare:
		return []field{fieldsField()}
	case api.OpDrop:
		return []field{idField}
	case api.OpSplit, api.OpMerge:
		return []field{spaceField, textField(setKey, 1, 100)}
	case api.OpMove:
		return []field{spaceField, textField(setKey, 0, 100), numberField(setNode, 1, 4)}
	}
	return nil
}

// allKinds are those that operations may have.
func allKinds() []int {
	return []int{1, 2, 3, 4, 5, 6, 7, 8, 9, 10, 11, 12}
}

// junk is an operation in which every field but the kind is wrong, whatever the kind.
func junk(kind int) api.Op {
	return api.Op{
		Kind:   kind,
		Key:    strings.Repeat("k", api.MaxAt+1),
		To:     strings.Repeat("t", api.MaxAt+1),
		Rec:    api.Record{{Kind: 9}},
		Old:    api.Record{{Kind: 9}},
		Id:     -1,
		Fields: []int{9, 9, 9},
		Low:    []api.Val{{Kind: 9}},
		High:   []api.Val{{Kind: 9}},
		Limit:  -1,
		Space:  -1,
		Node:   -1,
	}
}

// right is an operation whose fields are right where they count, and wrong where they don't.
func right(kind int, l []field) api.Op {
	op := junk(kind)
	for _, f := range l {
		f.right[0](&op)
	}
	return op
}

// P5.1

func TestCheckOfWhatIsRight(t *testing.T) {
	for _, kind := range allKinds() {
		l := fieldsOf(kind)
		for i, f := range l {
			for _, put := range f.right {
				op := right(kind, l)
				put(&op)
				if e := plain.Check(op); e != api.OK {
					t.Errorf("of an operation of kind %d, whose fields are right, field %d is at fault: %d, %#v", kind, i, e, op)
				}
			}
		}
		if e := plain.Check(right(kind, l)); e != api.OK {
			t.Errorf("an operation of kind %d hangs on fields that play no part: %d", kind, e)
		}
	}
}

func TestCheckOfOneFault(t *testing.T) {
	for _, kind := range allKinds() {
		l := fieldsOf(kind)
		for i, f := range l {
			for _, wrong := range f.wrong {
				op := right(kind, l)
				wrong.put(&op)
				if e := plain.Check(op); e != wrong.e {
					t.Errorf("of an operation of kind %d field %d is at fault: %d, not %d", kind, i, e, wrong.e)
				}
			}
		}
	}
}

func TestCheckOfTwoFaultsTellsTheFirst(t *testing.T) {
	for _, kind := range allKinds() {
		l := fieldsOf(kind)
		for i, f := range l {
			for j, later := range l[i+1:] {
				for k, wrong := range f.wrong {
					op := right(kind, l)
					wrong.put(&op)
					later.wrong[k%len(later.wrong)].put(&op)
					if e := plain.Check(op); e != wrong.e {
						t.Errorf("of an operation of kind %d fields %d and %d are at fault: %d, not %d", kind, i, i+1+j, e, wrong.e)
					}
				}
				for k, other := range later.wrong {
					op := right(kind, l)
					other.put(&op)
					wrong := f.wrong[k%len(f.wrong)]
					wrong.put(&op)
					if e := plain.Check(op); e != wrong.e {
						t.Errorf("of an operation of kind %d fields %d and %d are at fault: %d, not %d", kind, i, i+1+j, e, wrong.e)
					}
				}
			}
		}
	}
}

func TestCheckOfARecordOrRowTellsLargeAheadOfLaterFaults(t *testing.T) {
	large, bad := sample.LargeRecords()[0], sample.BadRecords()[0]
	one := api.Record{number(1)}
	for _, c := range []struct {
		op   api.Op
		want api.Errno
	}{
		{api.Op{Kind: api.OpPut, Key: "", Rec: large}, api.ErrArg},
		{api.Op{Kind: api.OpPut, Key: "k", Rec: large}, api.ErrLarge},
		{api.Op{Kind: api.OpCas, Key: "", Rec: large, Old: large}, api.ErrArg},
		{api.Op{Kind: api.OpCas, Key: "k", Rec: large, Old: bad}, api.ErrLarge},
		{api.Op{Kind: api.OpCas, Key: "k", Rec: bad, Old: large}, api.ErrArg},
		{api.Op{Kind: api.OpCas, Key: "k", Rec: one, Old: large}, api.ErrLarge},
		{api.Op{Kind: api.OpCas, Key: "k", Old: one}, api.ErrArg},
		{api.Op{Kind: api.OpCas, Key: "k"}, api.ErrArg},
		{api.Op{Kind: api.OpQuery, Id: 0, Low: large, High: large}, api.ErrArg},
		{api.Op{Kind: api.OpQuery, Id: 7, Low: large, High: large, Limit: 1}, api.ErrArg},
		{api.Op{Kind: api.OpQuery, Id: 1, Low: large, High: bad}, api.ErrLarge},
		{api.Op{Kind: api.OpQuery, Id: 1, Low: bad, High: large}, api.ErrArg},
		{api.Op{Kind: api.OpQuery, Id: 1, Low: one, High: large}, api.ErrLarge},
		{api.Op{Kind: api.OpQuery, Id: 1, Low: one, High: one}, api.ErrArg},
		{api.Op{Kind: api.OpQuery, Id: 1, Limit: 1}, api.OK},
		{api.Op{Kind: api.OpDeclare, Id: -1, Fields: []int{9, 9, 9}}, api.ErrLarge},
		{api.Op{Kind: api.OpDeclare, Id: 7, Fields: []int{0}}, api.OK},
	} {
		if e := plain.Check(c.op); e != c.want {
			t.Errorf("Check(%#v) = %d, not %d", c.op, e, c.want)
		}
	}
}

func TestCheckOfUnknownKinds(t *testing.T) {
	for _, kind := range []int{0, -1, 13, 14, 127, 128, 255, 256, 257, -255, 1 << 16, 1<<32 + 1, 1<<32 + 12, math.MinInt, math.MinInt + 1, math.MaxInt} {
		ops := []api.Op{{Kind: kind}, junk(kind)}
		for _, like := range allKinds() {
			op := right(like, fieldsOf(like))
			op.Kind = kind
			ops = append(ops, op)
		}
		// Of a field that would be at fault otherwise nothing is told.
		ops = append(ops, api.Op{Kind: kind, Key: "k", Rec: sample.LargeRecords()[0], Old: sample.LargeRecords()[0], Low: sample.LargeRecords()[0], Fields: []int{0, 1, 2}})
		for _, op := range ops {
			if e := plain.Check(op); e != api.ErrArg {
				t.Errorf("Check of kind %d = %d", kind, e)
			}
		}
	}
}

// P5.2, R3, R5

func TestDoOfWhatIsWrongTellsTheErrorAlone(t *testing.T) {
	s := filled()
	before := stateOf(s)
	check := func(op api.Op, want api.Errno) {
		t.Helper()
		if got := s.Do(op); !sameReply(got, api.Reply{Code: want}) {
			t.Errorf("Do of kind %d = %#v, not the error %d alone", op.Kind, got, want)
		}
	}
	for _, kind := range []int{0, -1, 13, 257, math.MinInt, math.MaxInt} {
		check(api.Op{Kind: kind, Key: "a", Rec: api.Record{number(1)}, Id: 1, Fields: []int{0}, Limit: 1, Node: 1}, api.ErrArg)
	}
	for _, kind := range allKinds() {
		l := fieldsOf(kind)
		for _, f := range l {
			for _, wrong := range f.wrong {
				op := right(kind, l)
				wrong.put(&op)
				check(op, wrong.e)
			}
		}
	}
	if !slices.Equal(stateOf(s), before) {
		t.Errorf("operations that are wrong changed %q to %q", before, stateOf(s))
	}
}
