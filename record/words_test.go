package record_test

import (
	"bytes"
	"slices"

	"davit/record"
)

// number is a number that records have, besides their kind.
type number struct {
	name string
	of   func(r *record.Rec) *int
}

func allNumbers() []number {
	return []number{
		{"S.Step", func(r *record.Rec) *int { return &r.S.Step }},
		{"S.Visit", func(r *record.Rec) *int { return &r.S.Visit }},
		{"S.Tries", func(r *record.Rec) *int { return &r.S.Tries }},
		{"S.Offset", func(r *record.Rec) *int { return &r.S.Offset }},
		{"Visit", func(r *record.Rec) *int { return &r.Visit }},
		{"Step", func(r *record.Rec) *int { return &r.Step }},
		{"Try", func(r *record.Rec) *int { return &r.Try }},
		{"To", func(r *record.Rec) *int { return &r.To }},
		{"Offset", func(r *record.Rec) *int { return &r.Offset }},
		{"Var", func(r *record.Rec) *int { return &r.Var }},
	}
}

func numberOf(name string) number {
	l := allNumbers()
	return l[slices.IndexFunc(l, func(n number) bool { return n.name == name })]
}

// cell is what the chapter's table says of a number: its range, what is added to it, and its bytes.
type cell struct {
	name                    string
	least, most, plus, size int
}

// line returns what the chapter's table says of the numbers of a kind; nothing for what is no kind.
func line(kind int) []cell {
	switch kind {
	case 1:
		return []cell{{"S.Step", -3, 29, 3, 1}, {"S.Visit", 1, 1001, 0, 2}, {"S.Tries", 0, 6, 0, 1}, {"S.Offset", 0, 2147483647, 0, 4}}
	case 2:
		return []cell{{"Visit", 1, 1001, 0, 2}, {"Step", 0, 29, 0, 1}, {"Try", 0, 5, 0, 1}}
	case 3:
		return []cell{{"Visit", 1, 1001, 0, 2}, {"To", -3, 29, 3, 1}, {"Offset", 0, 2147483647, 0, 4}, {"Var", -1, 7, 1, 1}}
	}
	return nil
}

// slowMay is May by the chapter's table alone.
func slowMay(r record.Rec) bool {
	if r.Kind != 1 && r.Kind != 2 && r.Kind != 3 {
		return false
	}
	given := line(r.Kind)
	for _, n := range allNumbers() {
		c := cell{name: n.name}
		if i := slices.IndexFunc(given, func(c cell) bool { return c.name == n.name }); i >= 0 {
			c = given[i]
		}
		if x := *n.of(&r); x < c.least || x > c.most {
			return false
		}
	}
	return slowLists(r)
}

func slowLists(r record.Rec) bool {
	mostVars, mostValue := 0, 0
	if r.Kind == 1 {
		mostVars = 8
	}
	if r.Kind == 3 && r.Var != -1 {
		mostValue = 100
	}
	isLong := func(b []byte) bool { return len(b) > 100 }
	return len(r.S.Vars) <= mostVars && !slices.ContainsFunc(r.S.Vars, isLong) && len(r.Value) <= mostValue
}

// slowBytes returns the last size digits of x to the base 256, which must not be below 0.
func slowBytes(x, size int) []byte {
	var b []byte
	for range size {
		b = append([]byte{byte(x % 256)}, b...)
		x /= 256
	}
	return b
}

// slowPut is Put of a valid record by the chapter's table alone.
func slowPut(r record.Rec) []byte {
	b := []byte{byte(r.Kind)}
	for _, c := range line(r.Kind) {
		b = append(b, slowBytes(*numberOf(c.name).of(&r)+c.plus, c.size)...)
	}
	texts := r.S.Vars
	switch r.Kind {
	case 1:
		b = append(b, byte(len(texts)))
	case 3:
		texts = [][]byte{r.Value}
	}
	for _, v := range texts {
		b = append(b, slowBytes(len(v), 2)...)
		b = append(b, v...)
	}
	return b
}

// slowGet is Get by the chapter's words alone: b is cut as the encoding of a record of its kind would be, and the record that this yields must be valid, and have b as its encoding.
func slowGet(b []byte) (record.Rec, bool) {
	rest := b
	take := func(size int) []byte {
		size = min(size, len(rest))
		taken := rest[:size]
		rest = rest[size:]
		return taken
	}
	value := func(size int) int {
		x := 0
		for _, c := range take(size) {
			x = x*256 + int(c)
		}
		return x
	}
	var r record.Rec
	r.Kind = value(1)
	for _, c := range line(r.Kind) {
		*numberOf(c.name).of(&r) = value(c.size) - c.plus
	}
	switch r.Kind {
	case 1:
		for range value(1) {
			r.S.Vars = append(r.S.Vars, take(value(2)))
		}
	case 3:
		r.Value = take(value(2))
	}
	if !slowMay(r) || !bytes.Equal(slowPut(r), b) {
		return record.Rec{}, false
	}
	return r, true
}
