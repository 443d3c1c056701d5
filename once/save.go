package once

import (
	"maps"
	"slices"

	"shelfmark/api"
	"shelfmark/pack"
	"shelfmark/record"
)

// yes is the number by which a form says that a record was there.
const yes = 1

// Save is the table as a text: how many clients there are, and then, by rising numbers, of each client its number, its floor, how many answers there are, and they.
func (t *Table) Save() string {
	forms := [][]byte{pack.Num(len(t.clients))}
	for _, client := range slices.Sorted(maps.Keys(t.clients)) {
		p := t.clients[client]
		forms = append(forms, pack.Num(client), pack.Num(p.floor), pack.Num(len(p.answers)))
		for _, number := range p.numbers() {
			forms = append(forms, pack.Num(number), form(p.answers[number]))
		}
	}
	return string(pack.Join(forms...))
}

// Load is the table whose Save a text is.
func Load(s string) (*Table, api.Errno) {
	t, r := New(), reader{b: []byte(s)}
	for left := r.num(); left > 0 && r.e == api.OK; left-- {
		t.load(&r)
	}
	// What is missing, left over, out of order or beyond a limit is asked for by this alone: such a text tells another table, which is saved otherwise.
	if t.Save() != s {
		return nil, api.ErrForm
	}
	return t, api.OK
}

// load keeps what is read of one client.
func (t *Table) load(r *reader) {
	client, floor := r.num(), r.num()
	// As the last one of Window others comes, this answer goes: so the floor is there again. No request has the number 0, so of that floor nothing is kept.
	t.Keep(client, floor, api.Reply{})
	for left := r.num(); left > 0 && r.e == api.OK; left-- {
		number := r.num()
		t.Keep(client, number, r.reply())
	}
}

// form is the form of a right reply: its Code, There, Id and, as a text, Rec, which is empty if there is none.
func form(reply api.Reply) []byte {
	there := 0
	if reply.There {
		there = yes
	}
	// A record without fields has an error, and beside it the text is empty.
	rec, _ := record.Pack(reply.Rec)
	return pack.Join(pack.Num(int(reply.Code)), pack.Num(there), pack.Num(reply.Id), pack.Text(rec))
}

// reader reads forms, one behind the other. Behind the first error it reads nothing but zeros and empty texts.
type reader struct {
	b  []byte
	at int
	e  api.Errno
}

func (r *reader) num() int {
	n := 0
	if r.e == api.OK {
		n, r.at, r.e = pack.GetNum(r.b, r.at)
	}
	return n
}

func (r *reader) text() string {
	s := ""
	if r.e == api.OK {
		s, r.at, r.e = pack.GetText(r.b, r.at, len(r.b))
	}
	return s
}

func (r *reader) reply() api.Reply {
	reply := api.Reply{Code: api.Errno(r.num()), There: r.num() == yes, Id: r.num()}
	// Of a text that is no record there is none.
	reply.Rec, _ = record.Unpack(r.text())
	return reply
}
