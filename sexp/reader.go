package sexp

import (
	"strings"

	"elenchus/api"
)

// level is a list that is open: the place of its "(", and its parts so far.
type level struct {
	at    int
	parts []api.Expr
}

// reader goes through a text from the front. Its first level is the text itself,
// the others are the open lists, the innermost last.
type reader struct {
	text   string
	at     int
	levels []level
}

// step reads what begins at the reader's place, and goes behind it; or it tells
// the place of what is wrong, and the error.
type step func() (int, api.Errno)

// steps are what signs begin, by their sorts.
func (r *reader) steps() [sorts]step {
	return [sorts]step{
		other:     r.nothing,
		blank:     r.blank,
		semicolon: r.comment,
		letter:    r.symbol,
		digit:     r.numeral,
		bar:       r.quoted,
		colon:     r.keyword,
		open:      r.listBegin,
		shut:      r.listEnd,
	}
}

// readAll reads up to the end.
func (r *reader) readAll() ([]api.Expr, int, api.Errno) {
	steps := r.steps()
	for r.at < len(r.text) {
		if at, err := steps[sortOf(r.text[r.at])](); err != api.OK {
			return nil, at, err
		}
	}
	if len(r.levels) > 1 {
		return nil, r.innermost().at, api.ErrOpen
	}
	return r.levels[0].parts, 0, api.OK
}

// innermost is shared with the reader, so that parts can be put in.
func (r *reader) innermost() *level {
	return &r.levels[len(r.levels)-1]
}

// rest is what isn't read yet, but for so many bytes.
func (r *reader) rest(skip int) string {
	return r.text[r.at+skip:]
}

func (r *reader) put(e api.Expr) {
	inner := r.innermost()
	inner.parts = append(inner.parts, e)
}

// putText puts in an expression of a text, and goes behind its size in bytes.
func (r *reader) putText(kind int, text string, size int) (int, api.Errno) {
	// A text of its own doesn't keep the one that was handed in.
	r.put(api.Expr{Kind: kind, At: r.at, Text: strings.Clone(text)})
	r.at += size
	return 0, api.OK
}

func (r *reader) nothing() (int, api.Errno) {
	return r.at, api.ErrLex
}

func (r *reader) blank() (int, api.Errno) {
	r.at++
	return 0, api.OK
}

func (r *reader) comment() (int, api.Errno) {
	size := strings.IndexByte(r.rest(0), '\n')
	if size < 0 {
		size = len(r.rest(0))
	}
	r.at += size
	return 0, api.OK
}

func (r *reader) symbol() (int, api.Errno) {
	size := leading(r.rest(0), isSign)
	return r.putText(api.Symbol, r.rest(0)[:size], size)
}

func (r *reader) numeral() (int, api.Errno) {
	// Signs that follow the digits at once are taken in here, so that they make it no numeral.
	size := leading(r.rest(0), isSign)
	text := r.rest(0)[:size]
	if !isNumeral(text) {
		return r.at, api.ErrLex
	}
	return r.putText(api.Numeral, text, size)
}

func (r *reader) keyword() (int, api.Errno) {
	size := leading(r.rest(1), isSign)
	if size == 0 {
		return r.at, api.ErrLex
	}
	return r.putText(api.Keyword, r.rest(1)[:size], 1+size)
}

func (r *reader) quoted() (int, api.Errno) {
	size := leading(r.rest(1), isQuotable)
	text, behind := r.rest(1)[:size], r.rest(1)[size:]
	if behind == "" {
		return r.at, api.ErrOpen
	}
	if sortOf(behind[0]) != bar {
		return r.at + 1 + size, api.ErrLex
	}
	return r.putText(api.Symbol, text, 1+size+1)
}

func (r *reader) listBegin() (int, api.Errno) {
	if len(r.levels) > api.MaxDeep {
		return r.at, api.ErrDeep
	}
	r.levels = append(r.levels, level{at: r.at})
	r.at++
	return 0, api.OK
}

func (r *reader) listEnd() (int, api.Errno) {
	if len(r.levels) == 1 {
		return r.at, api.ErrClose
	}
	list := *r.innermost()
	r.levels = r.levels[:len(r.levels)-1]
	r.put(api.Expr{Kind: api.List, At: list.at, Parts: list.parts})
	r.at++
	return 0, api.OK
}
