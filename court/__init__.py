"""Court: which work counts where."""
