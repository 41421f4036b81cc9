package yarrow

import (
	"yarrow/api"
	"yarrow/extract"
)

// readCommand takes the arguments of the command in, and tells whether nothing is wrong with them (P9).
func readCommand(args []string) (extract.Command, bool) {
	asked, ok := extract.ReadArgs(args)
	if !ok {
		return extract.Command{}, false
	}
	pattern, _, errno := readPattern(asked.Pattern)
	if errno != api.OK {
		return extract.Command{}, false
	}
	template, ok := readTemplate(asked.Template, pattern.Groups)
	if !ok {
		return extract.Command{}, false
	}
	return extract.New(asked.Options, pattern, template), true
}

// readTemplate takes a template in, for a pattern of so many groups (P9).
func readTemplate(text string, groups int) (extract.Template, bool) {
	parse := func(text string) extract.Template { return extract.ParseTemplate(text, groups) }
	template, _, errno := read(text, api.MaxText, parse, api.ErrArg)
	return template, errno == api.OK
}
