// Package lex is layer 2: texts as tokens.
package lex

import (
	"strings"

	"pangram/api"
)

// Keyword tells whether a text is one of the words.
func Keyword(s string) bool {
	switch s {
	case "fun", "let", "rec", "in", "if", "then", "else", "true", "false", "int", "bool":
		return true
	}
	return false
}

// Name tells whether a text is a name that may be.
func Name(s string) bool {
	return s != "" && isSmall(s[0]) && letters(s, 0) == len(s) && len(s) <= api.MaxName && !Keyword(s)
}

// Words is a text's tokens.
func Words(s string) ([]api.Token, int, api.Errno) {
	var l []api.Token
	for from := blanks(s, 0); from < len(s); {
		kind, to, e := token(s, from)
		if e != api.OK {
			return nil, from, e
		}
		l = append(l, api.Token{Kind: kind, Text: s[from:to], At: api.Span{From: from, To: to}})
		from = blanks(s, to)
	}
	end := api.Token{Kind: api.End, At: api.Span{From: len(s), To: len(s)}}
	return append(l, end), 0, api.OK
}

// Print is tokens as a text.
func Print(l ...api.Token) string {
	var texts []string
	for _, t := range l {
		if t.Kind != api.End {
			texts = append(texts, t.Text)
		}
	}
	return strings.Join(texts, " ")
}

// token is the kind of the token that begins at a byte, and the place behind it.
func token(s string, from int) (int, int, api.Errno) {
	switch {
	case isSmall(s[from]):
		return word(s, from)
	case isDigit(s[from]):
		return number(s, from)
	}
	return sign(s, from)
}

// word is a token of the kind Word or Name.
func word(s string, from int) (int, int, api.Errno) {
	to := letters(s, from)
	switch {
	case Keyword(s[from:to]):
		return api.Word, to, api.OK
	case to-from > api.MaxName:
		return 0, 0, api.ErrLong
	}
	return api.Name, to, api.OK
}

// number is a token of the kind Number.
func number(s string, from int) (int, int, api.Errno) {
	to := take(s, from, isDigit)
	padded := s[from] == '0' && to > from+1
	glued := to < len(s) && (isSmall(s[to]) || s[to] == '_')
	switch {
	case padded || glued:
		return 0, 0, api.ErrForm
	case to-from > api.MaxDigits:
		return 0, 0, api.ErrLong
	}
	return api.Number, to, api.OK
}

// sign is a token of the kind Sign.
func sign(s string, from int) (int, int, api.Errno) {
	switch s[from] {
	case '(', ')', ',', ':', '=', '*':
		return api.Sign, from + 1, api.OK
	case '-':
		if strings.HasPrefix(s[from:], "->") {
			return api.Sign, from + 2, api.OK
		}
	}
	return 0, 0, api.ErrForm
}

// blanks is the place behind the blanks, remarks too, that stand at a byte.
func blanks(s string, from int) int {
	remark := false
	return take(s, from, func(c byte) bool {
		remark = c == '#' || remark && c != '\n'
		return remark || isBlank(c)
	})
}

// letters is the place behind what may stand in a name.
func letters(s string, from int) int {
	return take(s, from, func(c byte) bool {
		return isSmall(c) || isDigit(c) || c == '_'
	})
}

// take is the place behind the bytes, from one on, as long as a function tells of each that it belongs to them.
func take(s string, from int, belongs func(c byte) bool) int {
	to := from
	for to < len(s) && belongs(s[to]) {
		to++
	}
	return to
}

func isBlank(c byte) bool {
	return c == ' ' || c == '\t' || c == '\n' || c == '\r'
}

func isSmall(c byte) bool {
	return 'a' <= c && c <= 'z'
}

func isDigit(c byte) bool {
	return '0' <= c && c <= '9'
}
