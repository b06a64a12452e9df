package lex

import "davit/api"

const (
	lineFeed    = 10
	leastInText = 32
	maxNumber   = 9999
)

// cutter is what the states have read.
type cutter struct {
	entrances []entrance
	tokens    []Token // the last one may be unfinished
	at        int     // the index of the byte that a state takes
	wrong     int     // the index of the error, once there is one
}

// state takes a byte, and returns the state that takes the next one; nil if there is an error.
type state func(c *cutter, b byte) state

// entrance leads from between the tokens to a state: for the bytes that fit, enter takes the place of between.
type entrance struct {
	fits  test
	enter state
}

// entrances has at most one entrance for each byte.
func entrances() []entrance {
	return []entrance{
		{among("\t\n\r "), func(*cutter, byte) state { return between }},
		{among("#"), func(*cutter, byte) state { return comment }},
		{letter(), func(c *cutter, b byte) state {
			c.begin(Word)
			return word()(c, b)
		}},
		{digit(), func(c *cutter, b byte) state {
			c.begin(Number)
			return number()(c, b)
		}},
		{among(`"`), func(c *cutter, b byte) state {
			c.begin(Text)
			return text
		}},
	}
}

func between(c *cutter, b byte) state {
	for _, e := range c.entrances {
		if e.fits(b) {
			return e.enter(c, b)
		}
	}
	return c.fail(c.at)
}

func comment(c *cutter, b byte) state {
	if b == lineFeed {
		return between
	}
	return comment
}

// run returns the state for a token that extends as far as the bytes fit. To each of them it applies add, which reports whether the token may begin like this.
func run(fits test, add func(t *Token, b byte) bool) state {
	var more state
	more = func(c *cutter, b byte) state {
		if !fits(b) {
			return between(c, b)
		}
		t := c.last()
		if !add(t, b) {
			return c.fail(t.At)
		}
		return more
	}
	return more
}

func word() state {
	fits := either(letter(), digit(), among("_"))
	return run(fits, func(t *Token, b byte) bool {
		t.Text = append(t.Text, b)
		return len(t.Text) <= api.MaxWord
	})
}

func number() state {
	digits := 0
	return run(digit(), func(t *Token, b byte) bool {
		hasLeadingZero := digits > 0 && t.N == 0
		digits++
		t.N = t.N*10 + int(b-'0')
		return !hasLeadingZero && t.N <= maxNumber
	})
}

// text takes a byte of a Text behind its first " where a character may begin.
func text(c *cutter, b byte) state {
	switch {
	case b < leastInText:
		return c.fail(c.at)
	case b == '"':
		return between
	case b == '\\':
		return escaped
	}
	c.add(b)
	return text
}

// escaped takes the byte behind a \ in a Text.
func escaped(c *cutter, b byte) state {
	if b < leastInText {
		return c.fail(c.at)
	}
	if b != '"' {
		c.add('\\')
	}
	c.add(b)
	return text
}

func (c *cutter) begin(kind int) {
	c.tokens = append(c.tokens, Token{Kind: kind, At: c.at})
}

func (c *cutter) last() *Token {
	return &c.tokens[len(c.tokens)-1]
}

func (c *cutter) add(b byte) {
	t := c.last()
	t.Text = append(t.Text, b)
}

// fail returns the state for an error at the index i.
func (c *cutter) fail(i int) state {
	c.wrong = i
	return nil
}
