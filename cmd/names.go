package cmd

import (
	"strings"

	"emendator/api"
)

// longest is how many bytes a word that is a name has at most.
const longest = len("substitute")

// command is what a word says that is a name: the short name that it stands for, that one's place among all, whether it may be told to be bold, and what reads that which follows it.
type command struct {
	name    string
	place   int
	bold    bool
	follows func(*reader) api.Errno
}

// commands are the words and signs that are names, but the empty one, behind which nothing can stand.
func commands() map[string]command {
	rows := []struct {
		words   string // the short name first
		bold    bool
		follows func(*reader) api.Errno
	}{
		{"d delete", true, (*reader).registerAndNumber},
		{"m move", false, (*reader).destination},
		{"t co copy", false, (*reader).destination},
		{"j join", true, (*reader).number},
		{"y yank", true, (*reader).registerAndNumber},
		{"pu put", true, (*reader).register},
		{"k mark", false, (*reader).mark},
		{"s substitute", false, (*reader).substitution},
		{"g global", true, (*reader).visits},
		{"v vglobal", false, (*reader).visits},
		{"norm normal", true, (*reader).keys},
		{"u undo", true, (*reader).number},
		{"red redo", false, (*reader).nothing},
		{"earlier", false, (*reader).number},
		{"later", false, (*reader).number},
		{"p print", false, (*reader).number},
		{">", false, (*reader).shift},
		{"<", false, (*reader).shift},
		{"&&", false, (*reader).again},
		{"&", false, (*reader).again},
		{"~", false, (*reader).again},
		{"@", false, (*reader).register},
		{"=", false, (*reader).number},
	}
	all := map[string]command{}
	for place, row := range rows {
		words := strings.Fields(row.words)
		for _, word := range words {
			all[word] = command{words[0], place, row.bold, row.follows}
		}
	}
	return all
}
