package record

import (
	"davit/api"
	"davit/pack"
)

// countSize is the number of bytes of the number of texts.
const countSize = 1

// judge notes whether a field is out of its range, and takes each field out of the record, so that what remains is what a record of this kind does not have.
type judge struct {
	isWrong bool
}

func (j *judge) number(at *int, s span) {
	j.isWrong = j.isWrong || *at < s.least || *at > s.most
	*at = 0
}

func (j *judge) text(at *[]byte) {
	j.isWrong = j.isWrong || len(*at) > api.MaxValue
	*at = nil
}

func (j *judge) texts(at *[][]byte) {
	j.isWrong = j.isWrong || len(*at) > api.MaxVars
	for _, b := range *at {
		j.text(&b)
	}
	*at = nil
}

// writer appends the encodings of fields that are in their ranges.
type writer struct {
	bytes []byte
}

func (w *writer) number(at *int, s span) {
	w.bytes = append(w.bytes, pack.Number(uint64(*at+s.plus), s.size)...)
}

func (w *writer) text(at *[]byte) {
	// A text in its range is never too long for pack.
	b, _ := pack.Text(*at)
	w.bytes = append(w.bytes, b...)
}

func (w *writer) texts(at *[][]byte) {
	w.bytes = append(w.bytes, pack.Number(uint64(len(*at)), countSize)...)
	for _, b := range *at {
		w.text(&b)
	}
}

// reader sets fields to what is encoded next, which may be out of their ranges.
type reader struct {
	from *pack.Reader
}

func (r *reader) number(at *int, s span) {
	*at = int(r.from.Number(s.size)) - s.plus
}

func (r *reader) text(at *[]byte) {
	*at = r.from.Text()
}

func (r *reader) texts(at *[][]byte) {
	l := make([][]byte, r.from.Number(countSize))
	for i := range l {
		r.text(&l[i])
	}
	*at = l
}
